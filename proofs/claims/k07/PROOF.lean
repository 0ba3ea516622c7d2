import PyProof.Rows.All
import Wide.All
import OpenK.AllK
import Wide.FinOn
import Lean
import PyProof.EqAt
import PyProof.EqKinds
import PyProof.TupleCall
import PyProof.StationsW
import PyProof.ExcInit
import PyProof.ExcClass2
import PyProof.NsDelKeeps
import PyProof.RulesAs
import PyProof.ListRange
import PyProof.Rows.SortShell
import KE.KSortKey
import KE.KLam
import KE.KNestM
import KE.KRevIter
import PyProof.Rows.Range3
import PyProof.Rows.CallKwBuiltin
import PyProof.WalkInts
import PyProof.Rows.SortRuns
import PySem.Challenge.RW_sidings_k07_behind
open PySem.W (instObj lookIn plainGet hasDictIn findIn isFn plainOver makesIn emptyDict keepIn specialIn takesIn mroIn kitOne kia_one fnOf codeIn kqdP kqdOk kla_obj envX tabIn nsIn mg_of mg_none_of)
set_option Elab.async false
set_option linter.all false
set_option maxRecDepth 100000
set_option maxHeartbeats 4000000
namespace L2
open PySem PySem.W
def runBy(st:SharedT->Thread->Option (SharedT × Thread))(n₀:Nat)(ann:Option Value):Nat->SharedT->Thread->Option SharedT
 | 0,_,_=>none
 | n+1,s,t=>match through t with
  | true=>some s
  | false=>match stepOk n₀ ann t with
   | false=>none
   | true=>match st s t with
    | some (s',t')=>runBy st n₀ ann n s' t'
    | none=>none
theorem runBy_top{tb:String->Option Builtin}{p:Program}{w:World}{n₀:Nat}{ann:Option Value}:∀ (n:Nat) (s r:SharedT) (t:Thread),runBy (stepT (denote tb) p w) n₀ ann n s t=some r->topRun tb p w n₀ ann n s.abs t=some r.abs
 | 0,_,_,_,h=>by cases h
 | n+1,s,r,t,h=>by
  unfold runBy at h
  unfold topRun
  cases ht:through t with
  | true=>rw [ht] at h;cases h;rfl
  | false=>
   rw [ht] at h
   cases hk:stepOk n₀ ann t with
   | false=>rw [hk] at h;cases h
   | true=>
    rw [hk] at h
    cases hs:stepT (denote tb) p w s t with
    | none=>rw [hs] at h;cases h
    | some x=>
     obtain ⟨s',t'⟩:=x
     rw [hs] at h
     rw [stepT_spec hs]
     exact runBy_top n s' r t' h
theorem left_of_T{p q:Program}{loose:List Str}{Xt:Shared->Bool}{α:Type}{Yf:Shared->α}{Ya:World->α}{N:Nat}{g0:Bool}{H₀:Params->Heap}{T₀:Params->BT}{life:Life}{d₀:Drawn}{k₀ m₀:Nat}{ann:Option Value}
  (open_:∀ w:World,(fencedOpening treeTable p w N).map (fun s=>(s.heap,s.gens,s.drawn,s.toks))=some (H₀ w.params,Array.mk [],d₀,k₀))
  (tree:∀ P,absHeap (T₀ P) m₀ life=H₀ P)
  (size:∀ w:World,((H₀ w.params).isNs mainGlobals&&(Array.mk []:Array GenState).size==0,(H₀ w.params).objs.size,(H₀ w.params).nsMap mainGlobals "__annotations__")=(true,m₀,ann))
  (obs:∀ (w:World) (os:OsState),(runBy (stepT (denote treeTable) p w) m₀ ann N ⟨T₀ w.params,m₀,life,Array.mk [],d₀,k₀,os⟩ (topStub p)).map (fun r=>((staticsOk (importedModules p.main.body) (H₀ w.params) r.abs.heap&&namesBound p r.abs.heap&&gensDone r.abs&&laidKept (H₀ w.params) r.abs.heap),
    openSeen q loose (importedModules p.main.body) Xt g0 r.abs,Yf r.abs))=some (true,openGood q loose,Ya w)):LeftO p q loose Xt Yf Ya N g0:=fun w=>by
 obtain ⟨⟨h,gs,d,k,os⟩,e,e'⟩:=Option.map_eq_some_iff.mp (open_ w)
 obtain ⟨rfl,rfl,rfl,rfl⟩:h=H₀ w.params /\ gs=Array.mk [] /\ d=d₀ /\ k=k₀:=by simpa using e'
 obtain ⟨z1,z2,z3⟩:_ /\ _ /\ _:=by simpa only [Prod.mk.injEq] using size w
 obtain ⟨r,er,lk⟩:=Option.map_eq_some_iff.mp (obs w os)
 obtain ⟨l1,l2,l3⟩:_ /\ _ /\ _:=by simpa only [Prod.mk.injEq] using lk
 have rr:=runBy_top _ _ _ _ er
 unfold SharedT.abs at rr
 dsimp only at rr
 rw [tree] at rr
 have t:topFrom treeTable p w N ⟨H₀ w.params,Array.mk [],d,k,os⟩=some r.abs:=by
  unfold topFrom
  dsimp only
  rw [z1,z2,z3]
  show Option.bind _ _=_
  rw [rr]
  show (match staticsOk (importedModules p.main.body) (H₀ w.params) r.abs.heap&&namesBound p r.abs.heap&&gensDone r.abs&&laidKept (H₀ w.params) r.abs.heap with | true=>_ | false=>_)=_
  rw [l1]
  rfl
 unfold openEnds
 rw [e]
 show (topFrom treeTable p w N _).map _=_
 rw [t]
 exact congrArg some (Prod.ext l2 l3)
theorem left_of_T3{p q:Program}{loose:List Str}{Xt:Shared->Bool}{α:Type}{Yf:Shared->α}{Ya:World->α}{N:Nat}{g0:Bool}{H₀:Params->Heap}{T₀:Params->BT}{life:Life}{d₀:Drawn}{k₀ m₀:Nat}{ann:Option Value}
  (open_:∀ w:World,(fencedOpening treeTable p w N).map (fun s=>(s.heap,s.gens,s.drawn,s.toks))=some (H₀ w.params,Array.mk [],d₀,k₀))
  (tree:∀ P,absHeap (T₀ P) m₀ life=H₀ P)
  (size:∀ w:World,((H₀ w.params).isNs mainGlobals&&(Array.mk []:Array GenState).size==0,(H₀ w.params).objs.size,(H₀ w.params).nsMap mainGlobals "__annotations__")=(true,m₀,ann))
  (oa:∀ (w:World) (os:OsState),(runBy (stepT (denote treeTable) p w) m₀ ann N ⟨T₀ w.params,m₀,life,Array.mk [],d₀,k₀,os⟩ (topStub p)).map (fun r=>(staticsOk (importedModules p.main.body) (H₀ w.params) r.abs.heap&&namesBound p r.abs.heap&&gensDone r.abs&&laidKept (H₀ w.params) r.abs.heap))=some true)
  (ob:∀ (w:World) (os:OsState),(runBy (stepT (denote treeTable) p w) m₀ ann N ⟨T₀ w.params,m₀,life,Array.mk [],d₀,k₀,os⟩ (topStub p)).map (fun r=>openSeen q loose (importedModules p.main.body) Xt g0 r.abs)=some (openGood q loose))
  (obs:∀ (w:World) (os:OsState),(runBy (stepT (denote treeTable) p w) m₀ ann N ⟨T₀ w.params,m₀,life,Array.mk [],d₀,k₀,os⟩ (topStub p)).map (fun r=>Yf r.abs)=some (Ya w)):LeftO p q loose Xt Yf Ya N g0:=by
 refine left_of_T open_ tree size fun w os=>?_
 obtain ⟨r,e,h1⟩:=Option.map_eq_some_iff.mp (oa w os)
 have h2:=ob w os
 have h3:=obs w os
 rw [e] at h2 h3 ⊢
 rw [Option.map_some] at h2 h3 ⊢
 rw [h1,Option.some.inj h2,Option.some.inj h3]
def treeOf(l:List Obj):BT:=((l.zip (List.range l.length)).foldl (fun t x=>t.ins x.2 x.1) .nil)
end L2
namespace My
open PySem PySem.W
def pwv:Program:=view PySem.Challenge.pw_sidings_k07_behind [0,2,3,5,6,7,9,10,11,13,14,15,16,18,19,20,22,23,24,26,27,28,30,31,32,33,34,35,36]
open PyProof.Rows
set_option maxRecDepth 100000 in
set_option maxHeartbeats 0 in
theorem seen_a(w:World)(os:OsState):(L2.runBy (stepT (denote treeTable) PySem.Challenge.pw_sidings_k07_behind w) 11 (some (.ref 6)) 20000 ⟨L2.treeOf (boot_heap w.params).objs.toList,11,(boot_heap (aWorld 1).params).life,Array.mk [],boot_drawn,boot_toks,os⟩ (topStub PySem.Challenge.pw_sidings_k07_behind)).map (fun r=>(staticsOk (importedModules PySem.Challenge.pw_sidings_k07_behind.main.body) (boot_heap w.params) r.abs.heap&&namesBound PySem.Challenge.pw_sidings_k07_behind r.abs.heap&&gensDone r.abs&&laidKept (boot_heap w.params) r.abs.heap))=some true:=by
 rewrite [PySem.W.Fast.te10156331382660048174,PySem.W.Fast.te11892475500146522536,PySem.W.Fast.te14364793385576792824]
 kernel_rfl
set_option maxRecDepth 100000 in
set_option maxHeartbeats 0 in
theorem seen_b(w:World)(os:OsState):(L2.runBy (stepT (denote treeTable) PySem.Challenge.pw_sidings_k07_behind w) 11 (some (.ref 6)) 20000 ⟨L2.treeOf (boot_heap w.params).objs.toList,11,(boot_heap (aWorld 1).params).life,Array.mk [],boot_drawn,boot_toks,os⟩ (topStub PySem.Challenge.pw_sidings_k07_behind)).map (fun r=>openSeen My.pwv [] (importedModules PySem.Challenge.pw_sidings_k07_behind.main.body) (fun s=>xlAt My.pwv [] s&&recOk PySem.Challenge.rw_sidings_k07_behind.row.records s) true r.abs)=some (openGood My.pwv []):=by
 rewrite [PySem.W.Fast.te10156331382660048174,PySem.W.Fast.te11892475500146522536,PySem.W.Fast.te14364793385576792824,PySem.W.Fast.te4187177175401517315]
 kernel_rfl
end My
namespace L2
open PySem PySem.Spec PyProof.Rows
abbrev Key:=Sum Int Str
def keyIs:Key->Value->Bool
 | .inl k,v=>Value.isInt k v
 | .inr x,v=>Value.isStrOf x v
def keyH(w:World):Key->Int
 | .inl k=>hashInt k
 | .inr x=>hashStr w x
theorem keyIs_shape:∀ {k:Key} {v:Value},keyIs k v=true->(∃ i t,k=Sum.inl i /\ v=Value.int i t) \/ (∃ x t,k=Sum.inr x /\ v=Value.str x t)
 | .inl i,v,h=>by
  obtain ⟨t,e⟩:=Value.isInt_shape (k:=i) (v:=v) h
  exact .inl ⟨i,t,rfl,e⟩
 | .inr x,v,h=>by
  obtain ⟨t,e⟩:=Value.isStrOf_shape (x:=x) (v:=v) h
  exact .inr ⟨x,t,rfl,e⟩
theorem key_ll(a b:Int):decide ((Sum.inl a:Key)=Sum.inl b)=(a==b):=by
 by_cases e:a=b
 ·subst e;simp
 ·have h:¬ (Sum.inl a:Key)=Sum.inl b:=fun q=>e (Sum.inl.inj q)
  rw [decide_eq_false h]
  exact (beq_eq_false_iff_ne.mpr e).symm
theorem key_rr(a b:Str):decide ((Sum.inr a:Key)=Sum.inr b)=decide (a=b):=by
 by_cases e:a=b
 ·subst e;simp
 ·have h:¬ (Sum.inr a:Key)=Sum.inr b:=fun q=>e (Sum.inr.inj q)
  rw [decide_eq_false h,decide_eq_false e]
theorem key_lr(a:Int)(b:Str):decide ((Sum.inl a:Key)=Sum.inr b)=false:=decide_eq_false (fun q=>nomatch q)
theorem key_rl(a:Str)(b:Int):decide ((Sum.inr a:Key)=Sum.inl b)=false:=decide_eq_false (fun q=>nomatch q)
def mixKind(prog:Program)(w:World):PySem.KeyKind prog w Key where
 is:=keyIs
 hash:=keyH w
 inj:=fun v a b ha hb=>by
  rcases keyIs_shape ha with ⟨i,t,rfl,rfl⟩ | ⟨x,t,rfl,rfl⟩
  ·rcases keyIs_shape hb with ⟨j,u,rfl,e⟩ | ⟨y,u,rfl,e⟩
   ·injection e with e1 _;rw [e1]
   ·exact nomatch e
  ·rcases keyIs_shape hb with ⟨j,u,rfl,e⟩ | ⟨y,u,rfl,e⟩
   ·exact nomatch e
   ·injection e with e1 _;rw [e1]
 byValue:=fun k v h=>by
  rcases keyIs_shape h with ⟨i,t,rfl,rfl⟩ | ⟨x,t,rfl,rfl⟩<;>rfl
 pyHash:=fun hv h=>by
  rcases keyIs_shape hv with ⟨i,t,rfl,rfl⟩ | ⟨x,t,rfl,rfl⟩
  ·exact wpAny_pyHash_int h
  ·exact wpAny_pyHash_str h
 eqBool:=fun hu hv h=>by
  rcases keyIs_shape hu with ⟨i,t,rfl,rfl⟩ | ⟨x,t,rfl,rfl⟩
  ·rcases keyIs_shape hv with ⟨j,u,rfl,rfl⟩ | ⟨y,u,rfl,rfl⟩
   ·rw [key_ll] at h;exact wpAny_eqBool_int h
   ·rw [key_lr] at h;exact SeqAt.EqAt.int_str i t y u _ _ _ _ h
  ·rcases keyIs_shape hv with ⟨j,u,rfl,rfl⟩ | ⟨y,u,rfl,rfl⟩
   ·rw [key_rl] at h;exact SeqAt.EqAt.str_int x t j u _ _ _ _ h
   ·rw [key_rr] at h;exact wpAny_eqBool_str h
 «strs»:=fun k x t v h=>by
  rcases keyIs_shape h with ⟨i,u,rfl,e⟩ | ⟨y,u,rfl,e⟩
  ·exact nomatch e
  ·injection e with e1 _
   subst e1
   cases v<;>rfl
end L2
namespace L2
open PySem PySem.Spec PyProof.Rows
inductive V where
 | non | bl (b:Bool) | int (i:Int) | str (x:Str) | byt (b:Array UInt8) | flt (b:UInt64) | ref (a:Addr) | ty (n:String)
 deriving DecidableEq
def RelV:V->Value->Prop
 | .non,u=>u=Value.none
 | .bl b,u=>u=Value.bool b
 | .int i,u=>∃ t,u=Value.int i t
 | .str x,u=>∃ t,u=Value.str x t
 | .byt b,u=>∃ t,u=Value.bytes b t
 | .flt b,u=>∃ t,u=Value.float b t
 | .ref a,u=>u=Value.ref a
 | .ty n,u=>u=Value.type n
abbrev Vals:List V->List Value->Prop:=Paired RelV
theorem Vals.length{xs:List V}{us:List Value}(r:Vals xs us):xs.length=us.length:=Paired.length r
theorem Vals.get:∀ {xs:List V} {us:List Value} {i:Nat} {x:V},Vals xs us->xs[i]?=some x->∃ u,us[i]?=some u /\ RelV x u
 | _,_,_,_,.nil,e=>by simp at e
 | _,_,0,_,.cons r _,e=>by simp at e;subst e;exact ⟨_,rfl,r⟩
 | _,_,i+1,x,.cons _ t,e=>by
  obtain ⟨u,h1,h2⟩:=Vals.get (i:=i) (x:=x) t (by simpa using e)
  exact ⟨u,by simpa using h1,h2⟩
theorem Vals.set{x:V}{u:Value}(r:RelV x u):∀ {xs:List V} {us:List Value} (i:Nat),Vals xs us->Vals (xs.set i x) (us.set i u)
 | _,_,_,.nil=>.nil
 | _,_,0,.cons _ t=>.cons r t
 | _,_,i+1,.cons q t=>.cons q (Vals.set r i t)
theorem Vals.append:∀ {xs ys:List V} {us ws:List Value},Vals xs us->Vals ys ws->Vals (xs++ys) (us++ws)
 | _,_,_,_,.nil,s=>s
 | _,_,_,_,.cons r t,s=>.cons r (Vals.append t s)
theorem Vals.take:∀ {xs:List V} {us:List Value} (n:Nat),Vals xs us->Vals (xs.take n) (us.take n)
 | _,_,0,_=>.nil
 | _,_,_+1,.nil=>.nil
 | _,_,n+1,.cons r t=>.cons r (Vals.take n t)
theorem Vals.drop:∀ {xs:List V} {us:List Value} (n:Nat),Vals xs us->Vals (xs.drop n) (us.drop n)
 | _,_,0,r=>r
 | _,_,_+1,.nil=>.nil
 | _,_,n+1,.cons _ t=>Vals.drop n t
def RelO:Option V->Option Value->Prop
 | some v,some u=>RelV v u
 | none,none=>True
 | _,_=>False
def KV{κ:Type}:List (κ × V)->List (κ × Value)->Prop:=Paired fun (p:κ × V) (q:κ × Value)=>p.1=q.1 /\ RelV p.2 q.2
def kV:Key->V
 | .inl i=>.int i
 | .inr x=>.str x
inductive HO where
 | lst (xs:List V)
 | tup (xs:List V)
 | dK (kvs:List (Key × V)) | dT (kvs:List (List Key × V))
 | set (S:Int->Bool) (n:Nat)
 | ins (C dx:Addr) (fs:List (Str × V))
 | own (x:Addr)
 | xd (fs:List (Str × V))
 | met (f x:Addr)
 | rng (lo hi:Int)
 | frz (o:Obj) (u:HO)
 | tbl (pl:Pos) (q:Str)
 | ext (φ:Heap->Prop)
abbrev Hp:=Addr->Option HO
def upd(H:Hp)(a:Addr)(o:HO):Hp:=fun b=>if b=a then some o else H b
theorem upd_same{H:Hp}{a:Addr}{o:HO}:upd H a o a=some o:=by unfold upd;rw [if_pos rfl]
theorem upd_ne{H:Hp}{a b:Addr}{o:HO}(h:b≠a):upd H a o b=H b:=by unfold upd;rw [if_neg h]
theorem upd_upd{H:Hp}{a:Addr}{o u:HO}:upd (upd H a o) a u=upd H a u:=by
 funext b;unfold upd;split<;>rfl
theorem ne_of{H:Hp}{a b:Addr}{o u:HO}(h:H a=some o)(h':H b=some u)(d:o≠u):a≠b:=by
 intro e;subst e;rw [h] at h';exact d (Option.some.inj h')
theorem ne_of_none{H:Hp}{a b:Addr}{o:HO}(h:H a=some o)(h':H b=none):a≠b:=by
 intro e;subst e;rw [h] at h';cases h'
section
variable (P:Program) (w:World)
def ObjOk(H:Hp)(h:Heap)(a:Addr):HO->Prop
 | .lst xs=>xs.length <= sizeLine /\ ∃ (its:List Value) (n:Nat),Vals xs its /\ h.get? a=some { cls:=.type "list",data:=.seq its.toArray n }
 | .tup xs=>xs.length <= sizeLine /\ ∃ its:List Value,Vals xs its /\ IsTup h a its.toArray
 | .dK kvs=>kvs.length <= sizeLine /\ (a==sysModules)=false /\ ∃ vs,KV kvs vs /\ h.DictOf (mixKind P w) a vs
 | .dT kvs=>kvs.length <= sizeLine /\ (a==sysModules)=false /\ ∃ xs:List (List Key × Addr × Value),
   Paired (fun (p:List Key × V) (q:List Key × Addr × Value)=>p.1=q.1 /\ H q.2.1=some (.tup (p.1.map kV)) /\ RelV p.2 q.2.2) kvs xs /\
   ∃ o es ep,h.get? a=some o /\ o.ExactDict /\ o.data=.dict es ep /\ es.toList=xs.map (entryOfKey (tupleKind (mixKind P w))) /\ (xs.map (·.1)).Nodup
 | .set S n=>h.SetOf (intKind P w) a S n
 | .ins C dx fs=>H dx=some (.own a) /\ fs.length <= 1000 /\ dx≠a /\ h.get? a=some (instObj C dx) /\
   ∃ mA,h.Ns1 dx mA /\ (∀ f,RelO (fs.lookup f) (mA f)) /\ PySem.Within mA (fs.map (·.1))
 | .own _=>∃ o,h.get? a=some o
 | .xd fs=>∃ mA,h.Ns1 a mA /\ ∀ f,RelO (fs.lookup f) (mA f)
 | .rng lo hi=>∃ t u v,h.get? a=some { cls:=.type "range",data:=.fields #[.int lo t,.int hi u,.int 1 v] }
 | .frz o u=>h.get? a=some o /\ ObjOk H h a u
 | .tbl pl q=>∃ ps,h.get? a=some (PySem.W.tabObj ps) /\ TriplesOk ps.toList /\
   ∀ cv,codeAmong pl ps.toList=some cv->∃ c oc vs t,cv=.ref c /\ H c=some (.frz oc (.own a)) /\ oc.data=.fields vs /\ vs[1]?=some (.str q t)
 | .met f x=>h.get? a=some (PySem.W.methodObj (.ref f) (.ref x))
 | .ext φ=>φ h /\ (∃ o,h.get? a=some o) /\ ∀ h1 h2:Heap,φ h1->(∀ o,h1.get? a=some o->h2.get? a=some o)->φ h2
def HOk(H:Hp)(h:Heap):Prop:=∀ a o,H a=some o->ObjOk P w H h a o
end
section
variable {P:Program} {w:World} {H H':Hp} {h h':Heap} {a:Addr} {o:HO}
theorem ObjOk.lt(x:ObjOk P w H h a o):a < h.objs.size:=by
 cases o with
 | lst xs=>obtain ⟨_,_,_,_,e⟩:=x;exact Heap.lt_size e
 | tup xs=>obtain ⟨_,_,_,p⟩:=x;exact p.lt
 | dK kvs=>obtain ⟨_,_,_,_,o,_,_,e,_⟩:=x;exact Heap.lt_size e
 | dT kvs=>obtain ⟨_,_,_,_,o,_,_,e,_⟩:=x;exact Heap.lt_size e
 | set S n=>obtain ⟨o,_,_,_,e,_⟩:=x;exact Heap.lt_size e
 | ins C dx fs=>obtain ⟨_,_,_,e,_⟩:=x;exact Heap.lt_size e
 | own y=>obtain ⟨_,e⟩:=x;exact Heap.lt_size e
 | xd fs=>obtain ⟨_,⟨_,_,_,e,_⟩,_⟩:=x;exact Heap.lt_size e
 | rng lo hi=>obtain ⟨_,_,_,e⟩:=x;exact Heap.lt_size e
 | frz ob u=>obtain ⟨e,_⟩:=x;exact Heap.lt_size e
 | tbl pl q=>obtain ⟨_,e,_⟩:=x;exact Heap.lt_size e
 | met f y=>exact Heap.lt_size (show h.get? a=some _ from x)
 | ext φ=>obtain ⟨_,⟨_,e⟩,_⟩:=x;exact Heap.lt_size e
theorem Paired.mapP{α β:Type}{F G:α->β->Prop}:∀ {l₁:List α} {l₂:List β},Paired F l₁ l₂->(∀ a b,F a b->G a b)->Paired G l₁ l₂
 | _,_,.nil,_=>.nil
 | _,_,.cons r t,f=>.cons (f _ _ r) (Paired.mapP t f)
theorem ObjOk.stay(x:ObjOk P w H h a o)(k:∀ b u,(b=a \/ H b=some (.own a))->h.get? b=some u->h'.get? b=some u)
  (ho:∀ b,H b=some (.own a)->H' b=some (.own a)) (ht:∀ b xs,H b=some (.tup xs)->H' b=some (.tup xs)) (hf:∀ b ob u,H b=some (.frz ob u)->H' b=some (.frz ob u)):ObjOk P w H' h' a o:=by
 induction o with
 | lst xs=>obtain ⟨z,its,n,r,e⟩:=x;exact ⟨z,its,n,r,k _ _ (.inl rfl) e⟩
 | tup xs=>obtain ⟨z,its,r,ob,e,c⟩:=x;exact ⟨z,its,r,ob,k _ _ (.inl rfl) e,c⟩
 | dK kvs=>obtain ⟨z,y,vs,r,ob,es,ep,e,c⟩:=x;exact ⟨z,y,vs,r,ob,es,ep,k _ _ (.inl rfl) e,c⟩
 | dT kvs=>
  obtain ⟨z,y,xs,r,ob,es,ep,e,c⟩:=x
  exact ⟨z,y,xs,Paired.mapP r fun p q z=>⟨z.1,ht _ _ z.2.1,z.2.2⟩,ob,es,ep,k _ _ (.inl rfl) e,c⟩
 | set S n=>obtain ⟨ob,es,ep,t,e,c⟩:=x;exact ⟨ob,es,ep,t,k _ _ (.inl rfl) e,c⟩
 | ins C dx fs=>
  obtain ⟨d,z,ne,e,mA,⟨od,es,ep,e2,c⟩,r⟩:=x
  exact ⟨ho _ d,z,ne,k _ _ (.inl rfl) e,mA,⟨od,es,ep,k _ _ (.inr d) e2,c⟩,r⟩
 | own y=>obtain ⟨ob,e⟩:=x;exact ⟨ob,k _ _ (.inl rfl) e⟩
 | xd fs=>obtain ⟨mA,⟨od,es,ep,e,c⟩,r⟩:=x;exact ⟨mA,⟨od,es,ep,k _ _ (.inl rfl) e,c⟩,r⟩
 | rng lo hi=>obtain ⟨t,u,v,e⟩:=x;exact ⟨t,u,v,k _ _ (.inl rfl) e⟩
 | frz ob u ih=>obtain ⟨e,q⟩:=x;exact ⟨k _ _ (.inl rfl) e,ih q⟩
 | tbl pl q=>
  obtain ⟨ps,e,tr,hc⟩:=x
  refine ⟨ps,k a _ (.inl rfl) e,tr,fun cv ecv=>?_⟩
  obtain ⟨c,oc,vs,t,e1,e2,e3⟩:=hc cv ecv
  exact ⟨c,oc,vs,t,e1,hf _ _ _ e2,e3⟩
 | met f y=>
  have e:h.get? a=some (PySem.W.methodObj (.ref f) (.ref y)):=x
  show h'.get? a=some (PySem.W.methodObj (.ref f) (.ref y))
  exact k a _ (.inl rfl) e
 | ext φ=>obtain ⟨p,⟨o,e⟩,st⟩:=x;exact ⟨st _ _ p fun o q=>k _ _ (.inl rfl) q,⟨o,k _ _ (.inl rfl) e⟩,st⟩
theorem HOk.lt(x:HOk P w H h)(e:H a=some o):a < h.objs.size:=(x a o e).lt
theorem HOk.fresh(x:HOk P w H h)(e:h.objs.size <= a):H a=none:=by
 cases q:H a with
 | none=>rfl
 | some u=>exact absurd (Nat.lt_of_lt_of_le (x.lt q) e) (Nat.lt_irrefl _)
theorem HOk.kept(x:HOk P w H h)(k:∀ b u,h.get? b=some u->h'.get? b=some u):HOk P w H h':=fun a o e=>
 (x a o e).stay (fun b u _ q=>k b u q) (fun _ q=>q) (fun _ _ q=>q) fun _ _ _ q=>q
theorem HOk.laid(x:HOk P w H h)(k:∀ b u,h.get? b=some u->h'.get? b=some u)(hp:h.objs.size <= a)(new:ObjOk P w (upd H a o) h' a o):HOk P w (upd H a o) h':=fun b u e=>by
 have hn:=x.fresh hp
 by_cases hb:b=a
 ·subst hb;rw [upd_same] at e;cases e;exact new
 ·rw [upd_ne hb] at e
  exact (x b u e).stay (fun c v _ q=>k c v q) (fun c q=>by rw [upd_ne (ne_of_none q hn)];exact q) (fun c xs q=>by rw [upd_ne (ne_of_none q hn)];exact q) fun c ob y q=>by rw [upd_ne (ne_of_none q hn)];exact q
end
def Rd(H:Hp)(a:Addr)(u:HO):Prop:=H a=some u \/ ∃ o,H a=some (.frz o u)
theorem Rd.ok{P:Program}{w:World}{H:Hp}{h:Heap}{a:Addr}{u:HO}(r:Rd H a u)(x:HOk P w H h):ObjOk P w H h a u:=by
 rcases r with r | ⟨o,r⟩
 ·exact x a u r
 ·obtain ⟨_,q⟩:=x a _ r
  exact q
def Mut:Option HO->Prop
 | some (.lst _)=>True
 | some (.dK _)=>True
 | some (.dT _)=>True
 | some (.set _ _)=>True
 | some (.ins _ _ _)=>True
 | some (.ext _)=>True
 | _=>False
section
variable {P:Program} {w:World} {H:Hp} {h h':Heap} {x e:Addr} {o':HO}
theorem HOk.write(ok:HOk P w H h)(mu:Mut (H x))(he:e=x \/ H e=some (.own x))(k:∀ b u,b≠e->h.get? b=some u->h'.get? b=some u)(heo:∃ u,h'.get? e=some u)
  (new:ObjOk P w (upd H x o') h' x o'):HOk P w (upd H x o') h':=fun b u q=>by
 have nown:∀ c y,H c=some (.own y)->c≠x:=fun c y r z=>by subst z;rw [r] at mu;exact mu
 have ntup:∀ c xs,H c=some (.tup xs)->c≠x:=fun c xs r z=>by subst z;rw [r] at mu;exact mu
 have nfrz:∀ c ob y,H c=some (.frz ob y)->c≠x:=fun c ob y r z=>by subst z;rw [r] at mu;exact mu
 by_cases hb:b=x
 ·subst hb;rw [upd_same] at q;cases q;exact new
 ·rw [upd_ne hb] at q
  by_cases hbe:b=e
  ·have q':H b=some (.own x):=by
    rcases he with z | z
    ·exact absurd (hbe.trans z) hb
    ·rw [hbe];exact z
   rw [q] at q';cases q'
   obtain ⟨v,hv⟩:=heo
   exact ⟨v,by rw [hbe];exact hv⟩
  ·refine (ok b u q).stay (fun c v hc r=>k c v ?_ r) (fun c r=>by rw [upd_ne (nown c b r)];exact r) (fun c xs r=>by rw [upd_ne (ntup c xs r)];exact r) fun c ob y r=>by rw [upd_ne (nfrz c ob y r)];exact r
   rcases hc with rfl | hc
   ·exact hbe
   ·rintro rfl
    rcases he with z | z
    ·exact nown c b hc z
    ·rw [hc] at z;cases z;exact hb rfl
end
structure Un(fs ex:List Addr)(H H':Hp)(h h':Heap):Prop where
 keep:∀ b o,h.get? b=some o->H b=none->b∉fs->b∉ex->h'.get? b=some o
 slot:∀ b o,h.get? b=some o->H b=none->b∈fs->b∉ex->∃ sl,h'.get? b=some { o with slots:=sl }
 free:∀ b o,h.get? b=some o->H b=none->b∉ex->H' b=none
 there:∀ b o,h.get? b=some o->b∉ex->∃ o',h'.get? b=some o'
 tups:∀ b xs,H b=some (.tup xs)->H' b=some (.tup xs)
 frzs:∀ b o u,H b=some (.frz o u)->H' b=some (.frz o u)
 tbls:∀ b pl q,H b=some (.tbl pl q)->H' b=some (.tbl pl q)
section
variable {fs fs' ex ex':List Addr} {H H1 H2:Hp} {h h1 h2 h':Heap} {a x e:Addr} {o:HO}
theorem Un.any(u:Un fs ex H H1 h h1){b:Addr}{ob:Obj}(q:h.get? b=some ob)(n:H b=none)(hx:b∉ex):∃ sl,h1.get? b=some { ob with slots:=sl }:=by
 by_cases hb:b∈fs
 ·exact u.slot b ob q n hb hx
 ·exact ⟨ob.slots,u.keep b ob q n hb hx⟩
theorem Un.kept(k:∀ b u,h.get? b=some u->h'.get? b=some u):Un fs ex H H h h':=
 ⟨fun b ob q _ _ _=>k b ob q,fun b ob q _ _ _=>⟨ob.slots,k b ob q⟩,fun _ _ _ n _=>n,fun b ob q _=>⟨ob,k b ob q⟩,fun _ _ q=>q,fun _ _ _ q=>q,fun _ _ _ q=>q⟩
theorem Un.refl:Un fs ex H H h h:=Un.kept fun _ _ q=>q
theorem Un.laid(k:∀ b u,h.get? b=some u->h'.get? b=some u)(hp:h.objs.size <= a)(hn:H a=none):Un fs ex H (upd H a o) h h' where
 keep:=fun b u q _ _ _=>k b u q
 slot:=fun b u q _ _ _=>⟨u.slots,k b u q⟩
 free:=fun b u q n _=>by rw [upd_ne (Nat.ne_of_lt (Nat.lt_of_lt_of_le (Heap.lt_size q) hp))];exact n
 there:=fun b u q _=>⟨u,k b u q⟩
 tups:=fun b xs q=>by rw [upd_ne (ne_of_none q hn)];exact q
 frzs:=fun b u xs q=>by rw [upd_ne (ne_of_none q hn)];exact q
 tbls:=fun b pl y q=>by rw [upd_ne (ne_of_none q hn)];exact q
theorem Un.write(mu:Mut (H x))(he:e=x \/ H e=some (.own x))(k:∀ b u,b≠e->h.get? b=some u->h'.get? b=some u)(heo:∃ u,h'.get? e=some u):Un fs ex H (upd H x o) h h':=by
 have hx:∀ b,H b=none->b≠x:=fun b n z=>by subst z;rw [n] at mu;exact mu
 have hb:∀ b,H b=none->b≠e:=fun b n z=>by
  subst z
  rcases he with r | r
  ·exact hx b n r
  ·rw [n] at r;cases r
 have hm:∀ b u,H b=some u->¬ Mut (some u)->b≠x:=fun b u q nm z=>by subst z;rw [q] at mu;exact nm mu
 refine ⟨fun b u q n _ _=>k b u (hb b n) q,fun b u q n _ _=>⟨u.slots,k b u (hb b n) q⟩,fun b u q n _=>by rw [upd_ne (hx b n)];exact n,fun b u q _=>?_,
  fun b xs q=>by rw [upd_ne (hm b _ q fun z=>z)];exact q,fun b u xs q=>by rw [upd_ne (hm b _ q fun z=>z)];exact q,fun b pl y q=>by rw [upd_ne (hm b _ q fun z=>z)];exact q⟩
 by_cases hbe:b=e
 ·subst hbe;exact heo
 ·exact ⟨u,k b u hbe q⟩
end
def trk(h:Heap)(H:Hp):List Addr:=(List.range h.objs.size).filter fun a=>(H a).isSome
def hidT(h:Heap)(H:Hp):Heap:=PySem.W.hideAll h (trk h H)
theorem hidT_size(h:Heap)(H:Hp):(hidT h H).objs.size=h.objs.size:=PySem.W.hideAll_size _ _
theorem hidT_get{h:Heap}{H:Hp}{b:Addr}{o:Obj}(e:h.get? b=some o)(n:H b=none):(hidT h H).get? b=some o:=
 PySem.W.hideAll_get _ e fun hm=>by
  have q:(H b).isSome=true:=(List.mem_filter.mp hm).2
  rw [n] at q;simp at q
theorem of_hidT{h:Heap}{H:Hp}{b:Addr}{o:Obj}(e:(hidT h H).get? b=some o):h.get? b=some o /\ H b=none:=by
 have e':h.get? b=some o:=PySem.W.of_hideAll (trk h H) e
 refine ⟨e',?_⟩
 cases q:H b with
 | none=>rfl
 | some x=>
  have hm:b∈trk h H:=List.mem_filter.mpr ⟨List.mem_range.mpr (Heap.lt_size e'),by simp [q]⟩
  have z:(hidT h H).get? b=none:=PySem.W.hideAll_none (trk h H) hm
  rw [z] at e;cases e
end L2
namespace L2
open PySem PySem.Spec PyProof.Rows
structure Mod(K:PySem.W.Frag)(mg:Str->Option Value)(base:Heap):Prop where
 kin:K.In base
 glob:base.Ns mainGlobals mg
 blt:∃ mb,base.Ns builtinsNs mb /\ ∀ x:Str,x ≠ "__name__"->mb x=bootBuiltins x
 nolimit:base.NoLimit
 bm:∃ bm ob,mg "__builtins__"=some (.ref bm) /\ bm≠builtinsNs /\ base.get? bm=some ob /\ ob.cls=.type "module" /\ ob.dict=some builtinsNs /\ ob.data=.plain
structure Cx where
 prog:Program
 w:World
 K:PySem.W.Frag
 mg:Str->Option Value
 base:Heap
 A:Around
 N:List Str
 s₀:Shared
 H₀:Hp
 env:Env
 outer:List Env
 stack:List Env
 ex:List Addr
 fn:Str->Bool
 calm:Bool
 pn:List (Addr × Obj)
 xe:Value->Shared->Prop
def frs(l:List Env):List Addr:=l.filterMap (·.frame)
abbrev Cx.fs(X:Cx):List Addr:=frs X.outer
def Vis(sc:Scope)(x:Str):Prop:=sc.names.lookup x=some .local \/ sc.names.lookup x=some .cell \/ sc.names.lookup x=some .free
def Loc(sc:Scope)(x:Str):Prop:=sc.names.lookup x=some .local \/ sc.names.lookup x=some .cell
def Look(env:Env)(h:Heap)(m:Str->Option Value)(x:Str)(u:Value):Prop:=
 (env.kindOf x=some .local /\ m x=some u) \/ ((env.kindOf x=some .cell \/ env.kindOf x=some .free) /\ ∃ c,env.cells.lookup x=some c /\ h.IsCell c (some u))
structure Cx.Ok(X:Cx):Prop where
 mod:Mod X.K X.mg X.base
 kind:X.env.scope.kind=.function
 glob:X.env.globals=mainGlobals
 blt:X.env.builtins=builtinsNs
 above:X.s₀.heap.objs.size <= X.env.locals
 inj:∀ x y c,X.env.cells.lookup x=some c->X.env.cells.lookup y=some c->x=y
 has:∀ x,(X.env.kindOf x=some .cell \/ X.env.kindOf x=some .free)->∃ c,X.env.cells.lookup x=some c
 cab:∀ x c,X.fn x=true->X.env.cells.lookup x=some c->X.s₀.heap.objs.size <= c
 hd:X.calm=true->X.A.handled=none
 frames:X.A.frames=some X.stack
 stk:X.stack=X.outer \/ (X.stack=X.env :: X.outer /\ X.env.frame=some X.env.locals)
 exf:∀ b∈X.ex,b≠X.env.locals /\ ∀ x c,X.env.cells.lookup x=some c->c≠b
 bs:∀ b o,X.base.get? b=some o->X.s₀.heap.get? b=some o /\ X.H₀ b=none
 bsz:X.base.objs.size <= X.s₀.heap.objs.size
 noex:∀ b o,X.base.get? b=some o->b∉X.ex
 exfs:∀ b∈X.ex,b∉X.fs
 funs:X.s₀.heap.FunFrames X.base X.outer
 frf:∀ b∈X.fs,X.H₀ b=none
structure Inv(X:Cx)(pins:List (Addr × Obj))(σ:List (Option V))(H:Hp)(s:Shared):Prop where
 ok:X.Ok
 os:s.os=X.s₀.os
 bare:AllBare s.gens
 base:Un X.fs X.ex X.H₀ H X.s₀.heap s.heap
 loc:∃ m,s.heap.Ns X.env.locals m /\ ∀ (i:Nat) (x:Str) (v:V),X.N[i]?=some x->σ[i]?=some (some v)->Vis X.env.scope x->∃ u,RelV v u /\ Look X.env s.heap m x u
 cell:∀ x c,X.env.cells.lookup x=some c->∃ v,s.heap.IsCell c v
 free:H X.env.locals=none
 freeC:∀ x c,X.env.cells.lookup x=some c->H c=none
 pin:∀ p∈X.pn++pins,s.heap.get? p.1=some p.2 /\ H p.1=none /\ p.1≠X.env.locals /\ p.1∉X.fs /\ ∀ v,p.2.data≠.cell v
 hok:HOk X.prog X.w H s.heap
 len:σ.length=X.N.length
section
variable {X:Cx} {pins:List (Addr × Obj)} {σ:List (Option V)} {H H':Hp} {s:Shared} {h':Heap}
theorem Cx.Ok.nofr(ok:X.Ok){b:Addr}{o:Obj}(e:X.base.get? b=some o):b∉X.fs:=fun hb=>by
 have:=(ok.funs.mem hb).1
 rw [e] at this;cases this
theorem Inv.bs(I:Inv X pins σ H s):∀ b o,X.base.get? b=some o->s.heap.get? b=some o /\ H b=none:=fun b o e=>
 ⟨I.base.keep b o (I.ok.bs b o e).1 (I.ok.bs b o e).2 (I.ok.nofr e) (I.ok.noex b o e),I.base.free b o (I.ok.bs b o e).1 (I.ok.bs b o e).2 (I.ok.noex b o e)⟩
theorem Inv.bk(I:Inv X pins σ H s):∀ b o,X.base.get? b=some o->s.heap.get? b=some o:=fun b o e=>(I.bs b o e).1
theorem Inv.mod(I:Inv X pins σ H s):Mod X.K X.mg X.base:=I.ok.mod
theorem Inv.kIn(I:Inv X pins σ H s):X.K.In s.heap:=I.ok.mod.kin.keeps I.bk
theorem Inv.nolimit(I:Inv X pins σ H s):s.heap.NoLimit:=I.ok.mod.nolimit.keeps I.bk
theorem Inv.fr(I:Inv X pins σ H s):∃ m,Fr X.base X.env.locals s.heap m:=
 let ⟨m,hn,_⟩:=I.loc
 ⟨m,hn,I.bk,Nat.le_trans I.ok.bsz I.ok.above⟩
theorem Inv.lt(I:Inv X pins σ H s):X.env.locals < s.heap.objs.size:=let ⟨_,hn,_⟩:=I.loc;hn.lt
theorem Inv.sz(I:Inv X pins σ H s):X.s₀.heap.objs.size <= s.heap.objs.size:=Nat.le_trans I.ok.above (Nat.le_of_lt I.lt)
theorem Inv.nofs(I:Inv X pins σ H s){a:Addr}(h:s.heap.objs.size <= a):a∉X.fs:=fun hb=>by
 obtain ⟨_,o,ho,_⟩:=I.ok.funs.mem hb
 exact absurd (Nat.lt_of_lt_of_le (Heap.lt_size ho) (Nat.le_trans I.sz h)) (Nat.lt_irrefl _)
theorem Inv.cne(I:Inv X pins σ H s):∀ x c,X.env.cells.lookup x=some c->c≠X.env.locals:=fun x c e z=>by
 obtain ⟨v,o,ho,hd⟩:=I.cell x c e
 obtain ⟨m,⟨o',es,ep,ho',hd',_⟩,_⟩:=I.loc
 rw [z,ho'] at ho;cases ho;rw [hd'] at hd;cases hd
theorem Inv.funs(I:Inv X pins σ H s):s.heap.FunFrames X.base X.outer:=by
 have all:∀ (l:List Env),(∀ b∈frs l,b∈X.fs)->X.s₀.heap.FunFrames X.base l->s.heap.FunFrames X.base l:=by
  intro l
  induction l with
  | nil=>intro _ _;trivial
  | cons env r ih=>
   intro hs hl
   obtain ⟨hk,⟨L,o,hf,hn,ho,hd⟩,hr⟩:=hl
   have hL:L∈X.fs:=hs L (by unfold frs;rw [List.filterMap_cons,hf];exact List.mem_cons_self)
   obtain ⟨sl,e⟩:=I.base.slot L o ho (I.ok.frf L hL) hL fun z=>I.ok.exfs L z hL
   exact ⟨hk,⟨L,_,hf,hn,e,hd⟩,ih (fun b hb=>hs b (by unfold frs;rw [List.filterMap_cons,hf];exact List.mem_cons_of_mem _ hb)) hr⟩
 exact all X.outer (fun _ hb=>hb) I.ok.funs
theorem Inv.stack(I:Inv X pins σ H s):s.heap.FunFrames X.base X.stack:=by
 rcases I.ok.stk with e | ⟨e,hf⟩
 ·rw [e];exact I.funs
 ·rw [e]
  obtain ⟨m,hn,_⟩:=I.loc
  refine .cons (by rw [I.ok.kind];decide) hf hn ?_ I.funs
  exact Heap.get?_none_of_le (Nat.le_trans I.ok.bsz I.ok.above)
theorem Inv.stkSub(I:Inv X pins σ H s):∀ b∈frs X.stack,b∈X.env.locals :: X.fs:=fun b hb=>by
 rcases I.ok.stk with e | ⟨e,hf⟩
 ·rw [e] at hb;exact List.mem_cons_of_mem _ hb
 ·rw [e] at hb
  unfold frs at hb
  rw [List.filterMap_cons,hf] at hb
  exact hb
theorem Inv.stkFree(I:Inv X pins σ H s):∀ b∈frs X.stack,H b=none:=fun b hb=>by
 rcases List.mem_cons.mp (I.stkSub b hb) with e | hb
 ·rw [e];exact I.free
 ·obtain ⟨_,o,ho,_⟩:=I.ok.funs.mem hb
  exact I.base.free b o ho (I.ok.frf b hb) fun z=>I.ok.exfs b z hb
theorem Inv.step{g':Array GenState}{t':Nat}{d':Drawn}{ch:List Addr}(I:Inv X pins σ H s)
  (hch:∀ b∈ch,(b∈X.ex \/ X.s₀.heap.objs.size <= b) /\ b≠X.env.locals /\ (∀ x c,X.env.cells.lookup x=some c->c≠b) /\ ∀ p∈X.pn++pins,p.1≠b)
  (keep:∀ b o,b≠X.env.locals->b∉X.fs->b∉ch->s.heap.get? b=some o->H b=none->h'.get? b=some o)
  (slot:∀ b o,b≠X.env.locals->b∈X.fs->b∉ch->s.heap.get? b=some o->H b=none->∃ sl,h'.get? b=some { o with slots:=sl }) (free:∀ b o,b∉ch->s.heap.get? b=some o->H b=none->H' b=none)
  (there:∀ b o,b∉ch->s.heap.get? b=some o->∃ o',h'.get? b=some o')
  (tups:∀ b xs,H b=some (.tup xs)->H' b=some (.tup xs)) (frzs:∀ b o u,H b=some (.frz o u)->H' b=some (.frz o u)) (tbls:∀ b pl q,H b=some (.tbl pl q)->H' b=some (.tbl pl q))
  (ns:∀ m,s.heap.Ns X.env.locals m->h'.Ns X.env.locals m) (hok:HOk X.prog X.w H' h') (hg:AllBare g'):
  Inv X pins σ H' { s with heap:=h',gens:=g',drawn:=d',toks:=t' }:=by
 have neL:∀ b o,X.s₀.heap.get? b=some o->b≠X.env.locals:=fun b o e=>Nat.ne_of_lt (Nat.lt_of_lt_of_le (Heap.lt_size e) I.ok.above)
 have neC:∀ b o,X.s₀.heap.get? b=some o->b∉X.ex->b∉ch:=fun b o e hx hb=>by
  rcases (hch b hb).1 with z | z
  ·exact hx z
  ·exact absurd (Nat.lt_of_lt_of_le (Heap.lt_size e) z) (Nat.lt_irrefl _)
 have cellK:∀ x c,X.env.cells.lookup x=some c->∀ v,s.heap.IsCell c v->h'.IsCell c v:=fun x c e v ⟨o,ho,hd⟩=>by
  have nch:c∉ch:=fun z=>(hch c z).2.2.1 x c e rfl
  by_cases hc:c∈X.fs
  ·obtain ⟨sl,q⟩:=slot c o (I.cne x c e) hc nch ho (I.freeC x c e)
   exact ⟨_,q,hd⟩
  ·exact ⟨o,keep c o (I.cne x c e) hc nch ho (I.freeC x c e),hd⟩
 refine ⟨I.ok,I.os,hg,⟨fun b o e n hb hx=>?_,fun b o e n hb hx=>?_,fun b o e n hx=>?_,fun b o e hx=>?_,fun b xs e=>tups b xs (I.base.tups b xs e),fun b o xs e=>frzs b o xs (I.base.frzs b o xs e),fun b pl y e=>tbls b pl y (I.base.tbls b pl y e)⟩,?_,fun x c e=>?_,?_,fun x c e=>?_,fun p hp=>?_,hok,I.len⟩
 ·exact keep b o (neL b o e) hb (neC b o e hx) (I.base.keep b o e n hb hx) (I.base.free b o e n hx)
 ·obtain ⟨sl,e1⟩:=I.base.slot b o e n hb hx
  obtain ⟨sl',e2⟩:=slot b _ (neL b o e) hb (neC b o e hx) e1 (I.base.free b o e n hx)
  exact ⟨sl',e2⟩
 ·obtain ⟨o',e1⟩:=I.base.there b o e hx
  exact free b o' (neC b o e hx) e1 (I.base.free b o e n hx)
 ·obtain ⟨o',e1⟩:=I.base.there b o e hx
  exact there b o' (neC b o e hx) e1
 ·obtain ⟨m,hn,hl⟩:=I.loc
  refine ⟨m,ns m hn,fun i x v e1 e2 e3=>?_⟩
  obtain ⟨u,r,l⟩:=hl i x v e1 e2 e3
  refine ⟨u,r,?_⟩
  rcases l with l | ⟨k,c,e,z⟩
  ·exact .inl l
  ·exact .inr ⟨k,c,e,cellK x c e _ z⟩
 ·obtain ⟨v,z⟩:=I.cell x c e
  exact ⟨v,cellK x c e v z⟩
 ·obtain ⟨m,⟨o,_,_,ho,_⟩,_⟩:=I.loc
  exact free _ o (fun z=>(hch _ z).2.1 rfl) ho I.free
 ·obtain ⟨v,o,ho,hd⟩:=I.cell x c e
  exact free c o (fun z=>(hch c z).2.2.1 x c e rfl) ho (I.freeC x c e)
 ·obtain ⟨e,n,ne,nf,d⟩:=I.pin p hp
  have nch:p.1∉ch:=fun z=>(hch p.1 z).2.2.2 p hp rfl
  exact ⟨keep p.1 p.2 ne nf nch e n,free p.1 p.2 nch e n,ne,nf,d⟩
theorem Inv.un{t':Nat}(I:Inv X pins σ H s)(u:Un X.fs [] H H' s.heap h')(hok:HOk X.prog X.w H' h'):Inv X pins σ H' { s with heap:=h',toks:=t' }:=by
 obtain ⟨m,⟨o,es,ep,ho,r⟩,_⟩:=id I.loc
 obtain ⟨sl,hL⟩:=u.any ho I.free (by simp)
 exact I.step (g':=s.gens) (d':=s.drawn) (ch:=[]) (fun _ z=>nomatch z) (fun b o _ hb _ e n=>u.keep b o e n hb (by simp)) (fun b o _ hb _ e n=>u.slot b o e n hb (by simp)) (fun b o _ e n=>u.free b o e n (by simp)) (fun b o _ e=>u.there b o e (by simp)) u.tups u.frzs u.tbls (fun m' hm=>by
  obtain ⟨o',es',ep',ho',r'⟩:=hm
  rw [ho] at ho';cases ho'
  exact ⟨_,es',ep',hL,r'⟩) hok I.bare
theorem Inv.call{g':Array GenState}{t':Nat}{d':Drawn}{ch:List Addr}(I:Inv X pins σ H s)(u:Un (frs X.stack) ch H H' s.heap h')(hok:HOk X.prog X.w H' h')(hg:AllBare g')
  (hch:∀ b∈ch,(b∈X.ex \/ X.s₀.heap.objs.size <= b) /\ b≠X.env.locals /\ (∀ x c,X.env.cells.lookup x=some c->c≠b) /\ ∀ p∈X.pn++pins,p.1≠b):
  Inv X pins σ H' { s with heap:=h',gens:=g',drawn:=d',toks:=t' }:=by
 obtain ⟨m,⟨o,es,ep,ho,r⟩,_⟩:=id I.loc
 obtain ⟨sl,hL⟩:=u.any ho I.free fun z=>(hch _ z).2.1 rfl
 exact I.step (ch:=ch) hch (fun b o hL hb hc e n=>u.keep b o e n (fun z=>(List.mem_cons.mp (I.stkSub b z)).elim hL hb) hc) (fun b o _ _ hc e n=>u.any e n hc) (fun b o hc e n=>u.free b o e n hc) (fun b o hc e=>u.there b o e hc) u.tups u.frzs u.tbls (fun m' hm=>by
  obtain ⟨o',es',ep',ho',r'⟩:=hm
  rw [ho] at ho';cases ho'
  exact ⟨_,es',ep',hL,r'⟩) hok hg
theorem Inv.turned{t':Nat}{it:Addr}(I:Inv X pins σ H s)(k:∀ b o,b≠it->s.heap.get? b=some o->h'.get? b=some o)(hn:H it=none)(hL:it≠X.env.locals)
  (h1:it∈X.ex \/ X.s₀.heap.objs.size <= it) (h2:∀ x c,X.env.cells.lookup x=some c->c≠it) (h3:∀ p∈X.pn++pins,p.1≠it):Inv X pins σ H { s with heap:=h',toks:=t' }:=by
 have nit:∀ b u,H b=some u->b≠it:=fun b u e z=>by rw [z,hn] at e;cases e
 refine I.step (g':=s.gens) (d':=s.drawn) (ch:=[it]) (fun b hb=>?_) (fun b o _ _ hc e _=>k b o (fun z=>hc (by simp [z])) e) (fun b o _ _ hc e _=>⟨o.slots,k b o (fun z=>hc (by simp [z])) e⟩) (fun _ _ _ _ n=>n)
  (fun b o hc e=>⟨o,k b o (fun z=>hc (by simp [z])) e⟩) (fun _ _ e=>e) (fun _ _ _ e=>e) (fun _ _ _ e=>e) (fun m hm=>?_) (fun b u e=>?_) I.bare
 ·have e:b=it:=by simpa using hb
  subst e
  exact ⟨h1,hL,h2,h3⟩
 ·obtain ⟨o,es,ep,ho,r⟩:=hm
  exact ⟨o,es,ep,k _ o (Ne.symm hL) ho,r⟩
 ·refine (I.hok b u e).stay (fun c v hc q=>k c v ?_ q) (fun _ q=>q) (fun _ _ q=>q) fun _ _ _ q=>q
  rcases hc with z | z
  ·rw [z];exact nit b u e
  ·exact nit c _ z
theorem Inv.tok(I:Inv X pins σ H s)(t:Nat):Inv X pins σ H { s with toks:=t }:=I.un (h':=s.heap) (t':=t) Un.refl I.hok
theorem Inv.kept{t':Nat}(I:Inv X pins σ H s)(k:∀ b u,s.heap.get? b=some u->h'.get? b=some u):Inv X pins σ H { s with heap:=h',toks:=t' }:=I.un (Un.kept k) (I.hok.kept k)
theorem Inv.laid{a:Addr}{o:HO}{t':Nat}(I:Inv X pins σ H s)(k:∀ b u,s.heap.get? b=some u->h'.get? b=some u)(hp:s.heap.objs.size <= a)(new:ObjOk X.prog X.w (upd H a o) h' a o):
  Inv X pins σ (upd H a o) { s with heap:=h',toks:=t' }:=I.un (Un.laid k hp (I.hok.fresh hp)) (I.hok.laid k hp new)
theorem Inv.write{x e:Addr}{o:HO}{t':Nat}(I:Inv X pins σ H s)(mu:Mut (H x))(he:e=x \/ H e=some (.own x))(k:∀ b u,b≠e->s.heap.get? b=some u->h'.get? b=some u)(heo:∃ u,h'.get? e=some u)
  (new:ObjOk X.prog X.w (upd H x o) h' x o):Inv X pins σ (upd H x o) { s with heap:=h',toks:=t' }:=I.un (Un.write mu he k heo) (I.hok.write mu he k heo new)
theorem Inv.pins_of{pins':List (Addr × Obj)}(I:Inv X pins σ H s)(h:∀ p∈pins',s.heap.get? p.1=some p.2 /\ H p.1=none /\ p.1≠X.env.locals /\ p.1∉X.fs /\ ∀ v,p.2.data≠.cell v):Inv X pins' σ H s:=
 ⟨I.ok,I.os,I.bare,I.base,I.loc,I.cell,I.free,I.freeC,fun p hp=>(List.mem_append.mp hp).elim (fun z=>I.pin p (List.mem_append_left _ z)) (h p),I.hok,I.len⟩
theorem nodup_ix{N:List Str}(hN:N.Nodup){i j:Nat}{x:Str}(a:N[i]?=some x)(b:N[j]?=some x):i=j:=by
 obtain ⟨h1,e1⟩:=List.getElem?_eq_some_iff.mp a
 obtain ⟨h2,e2⟩:=List.getElem?_eq_some_iff.mp b
 exact (List.getElem_inj hN).mp (e1.trans e2.symm)
theorem store_ok2{M:Model}{A:Around}{E:Value->Shared->Prop}{i:Nat}{x:Str}{v:V}{u:Value}{Q:Unit->Shared->Prop}(I:Inv X pins σ H s)(hN:X.N.Nodup)(hi:X.N[i]?=some x)(hx:Loc X.env.scope x)(r:RelV v u)
  (h:∀ s',Inv X pins (σ.set i (some v)) H s'->(∃ a,Heap.SameBut a s.heap s'.heap /\ (a=X.env.locals \/ X.env.cells.lookup x=some a))->Q () s') (hf:X.fn x=true \/ X.env.scope.names.lookup x=some .local:=by first | exact .inl rfl | exact .inr rfl | assumption):wpAny M A (storeName X.env x u) Q E s:=by
 obtain ⟨m,hn,hl⟩:=id I.loc
 have hcls:(X.env.scope.kind==.class || (X.env.scope.kind==.module&&X.env.locals != X.env.globals))=false:=by rw [I.ok.kind];rfl
 have hiσ:i < σ.length:=by rw [I.len];exact (List.getElem?_eq_some_iff.mp hi).1
 have cne:=I.cne
 have tracked:∀ {a:Addr} {h':Heap},(∃ o,s.heap.get? a=some o /\ H a=none)->Heap.SameBut a s.heap h'->HOk X.prog X.w H h':=fun {a h'} ha hs b ob e=>by
  obtain ⟨_,_,hfree⟩:=ha
  refine (I.hok b ob e).stay (fun c w' hc q=>(hs.2 c ?_).trans q) (fun _ q=>q) (fun _ _ q=>q) fun _ _ _ q=>q
  rintro rfl
  rcases hc with rfl | hc
  ·rw [hfree] at e;cases e
  ·rw [hfree] at hc;cases hc
 rcases hx with hk | hk
 ·refine wpAny_storeName_local hk hn (fun h' hn' hs=>?_) hcls
  obtain ⟨oL,_,_,hoL,_⟩:=id hn
  refine h _ ⟨I.ok,I.os,I.bare,⟨fun b o e n hb hx=>?_,fun b o e n hb hx=>?_,I.base.free,fun b o e hx=>?_,I.base.tups,I.base.frzs,I.base.tbls⟩,⟨_,hn',fun j y v' e1 e2 e3=>?_⟩,fun y c e=>?_,I.free,I.freeC,fun p hp=>?_,tracked ⟨oL,hoL,I.free⟩ hs,by simpa using I.len⟩ ⟨_,hs,.inl rfl⟩
  ·exact (hs.2 b (Nat.ne_of_lt (Nat.lt_of_lt_of_le (Heap.lt_size e) I.ok.above))).trans (I.base.keep b o e n hb hx)
  ·obtain ⟨sl,e1⟩:=I.base.slot b o e n hb hx
   exact ⟨sl,(hs.2 b (Nat.ne_of_lt (Nat.lt_of_lt_of_le (Heap.lt_size e) I.ok.above))).trans e1⟩
  ·obtain ⟨o',e1⟩:=I.base.there b o e hx
   exact ⟨o',(hs.2 b (Nat.ne_of_lt (Nat.lt_of_lt_of_le (Heap.lt_size e) I.ok.above))).trans e1⟩
  ·by_cases hj:j=i
   ·subst hj
    rw [hi] at e1;cases e1
    rw [List.getElem?_set_self hiσ] at e2
    cases e2
    exact ⟨u,r,.inl ⟨hk,by simp⟩⟩
   ·rw [List.getElem?_set_ne (Ne.symm hj)] at e2
    obtain ⟨u',r',q⟩:=hl j y v' e1 e2 e3
    refine ⟨u',r',?_⟩
    rcases q with ⟨k,e⟩ | ⟨k,c,e,z⟩
    ·refine .inl ⟨k,?_⟩
     have:y≠x:=fun e=>hj (nodup_ix hN e1 (e ▸ hi))
     simp [this,e]
    ·exact .inr ⟨k,c,e,z.sameBut hs (cne y c e)⟩
  ·obtain ⟨w',z⟩:=I.cell y c e
   exact ⟨w',z.sameBut hs (cne y c e)⟩
  ·obtain ⟨e,n,ne,nf,d⟩:=I.pin p hp
   exact ⟨(hs.2 p.1 ne).trans e,n,ne,nf,d⟩
 ·have hfn:X.fn x=true:=by
   rcases hf with z | z
   ·exact z
   ·rw [z] at hk;cases hk
  obtain ⟨c,hc⟩:=I.ok.has x (.inl hk)
  obtain ⟨w',z⟩:=I.cell x c hc
  refine wpAny_storeName_cell I.ok.kind hk hc z (fun h' hc' hs=>?_)
  obtain ⟨oc,hoc,hocd⟩:=id z
  refine h { s with heap:=h' } ⟨I.ok,I.os,I.bare,⟨fun b o e n hb hx=>?_,fun b o e n hb hx=>?_,I.base.free,fun b o e hx=>?_,I.base.tups,I.base.frzs,I.base.tbls⟩,⟨m,hn.sameBut hs (Ne.symm (cne x c hc)),fun j y v' e1 e2 e3=>?_⟩,fun y c' e=>?_,I.free,I.freeC,fun p hp=>?_,tracked ⟨oc,hoc,I.freeC x c hc⟩ hs,by simpa using I.len⟩ ⟨c,hs,.inr hc⟩
  ·exact (hs.2 b (Nat.ne_of_lt (Nat.lt_of_lt_of_le (Heap.lt_size e) (I.ok.cab x c hfn hc)))).trans (I.base.keep b o e n hb hx)
  ·obtain ⟨sl,e1⟩:=I.base.slot b o e n hb hx
   exact ⟨sl,(hs.2 b (Nat.ne_of_lt (Nat.lt_of_lt_of_le (Heap.lt_size e) (I.ok.cab x c hfn hc)))).trans e1⟩
  ·obtain ⟨o',e1⟩:=I.base.there b o e hx
   exact ⟨o',(hs.2 b (Nat.ne_of_lt (Nat.lt_of_lt_of_le (Heap.lt_size e) (I.ok.cab x c hfn hc)))).trans e1⟩
  ·by_cases hj:j=i
   ·subst hj
    rw [hi] at e1;cases e1
    rw [List.getElem?_set_self hiσ] at e2
    cases e2
    exact ⟨u,r,.inr ⟨.inl hk,c,hc,hc'⟩⟩
   ·rw [List.getElem?_set_ne (Ne.symm hj)] at e2
    obtain ⟨u',r',q⟩:=hl j y v' e1 e2 e3
    refine ⟨u',r',?_⟩
    rcases q with q | ⟨k,c',e,z'⟩
    ·exact .inl q
    ·refine .inr ⟨k,c',e,z'.sameBut hs ?_⟩
     rintro rfl
     exact hj (nodup_ix hN e1 (I.ok.inj _ _ _ e hc ▸ hi))
  ·by_cases hcc:c'=c
   ·subst hcc;exact ⟨_,hc'⟩
   ·obtain ⟨w2,z2⟩:=I.cell y c' e
    exact ⟨w2,z2.sameBut hs hcc⟩
  ·obtain ⟨e,n,ne,nf,d⟩:=I.pin p hp
   refine ⟨(hs.2 p.1 ?_).trans e,n,ne,nf,d⟩
   intro q
   rw [q,hoc] at e
   have q':oc=p.2:=Option.some.inj e
   exact d w' (by rw [<- q'];exact hocd)
theorem store_ok{M:Model}{A:Around}{E:Value->Shared->Prop}{i:Nat}{x:Str}{v:V}{u:Value}{Q:Unit->Shared->Prop}(I:Inv X pins σ H s)(hN:X.N.Nodup)(hi:X.N[i]?=some x)(hx:Loc X.env.scope x)(r:RelV v u)
  (h:∀ s',Inv X pins (σ.set i (some v)) H s'->Q () s') (hf:X.fn x=true \/ X.env.scope.names.lookup x=some .local:=by first | exact .inl rfl | exact .inr rfl | assumption):wpAny M A (storeName X.env x u) Q E s:=
 store_ok2 I hN hi hx r (fun s' I' _=>h s' I') hf
theorem Inv.call'{s':Shared}{ch:List Addr}(I:Inv X pins σ H s)(ho:s'.os=s.os)(u:Un (frs X.stack) ch H H' s.heap s'.heap)(hok:HOk X.prog X.w H' s'.heap)(hg:AllBare s'.gens)
  (hch:∀ b∈ch,(b∈X.ex \/ X.s₀.heap.objs.size <= b) /\ b≠X.env.locals /\ (∀ x c,X.env.cells.lookup x=some c->c≠b) /\ ∀ p∈X.pn++pins,p.1≠b):Inv X pins σ H' s':=by
 obtain ⟨h',g',d',t',o'⟩:=s'
 have e:o'=s.os:=ho
 subst e
 exact I.call (g':=g') (t':=t') (d':=d') u hok hg hch
end
abbrev XK:=Value->Option Addr->Hp->Prop
abbrev St:=List (Option V)
abbrev VK:=V->Hp->Prop
abbrev TE:=St->Hp->VK->Prop
abbrev TT:=St->Hp->(Bool->Hp->Prop)->Prop
abbrev TA:=St->Hp->(List V->Hp->Prop)->Prop
structure Ends where
 nx:St->Hp->Prop
 rt:VK
 bk:St->Hp->Prop:=fun _ _=>False
 ct:St->Hp->Prop:=fun _ _=>False
abbrev TS:=Ends->St->Hp->Prop
def EP(X:Cx)(pins:List (Addr × Obj))(σ:St)(Q:VK)(u:Value)(s':Shared):Prop:=∃ v H',Inv X pins σ H' s' /\ RelV v u /\ Q v H'
def TP(X:Cx)(pins:List (Addr × Obj))(σ:St)(Q:Bool->Hp->Prop)(b:Bool)(s':Shared):Prop:=∃ H',Inv X pins σ H' s' /\ Q b H'
def AP(X:Cx)(pins:List (Addr × Obj))(σ:St)(Q:List V->Hp->Prop)(us:List Value)(s':Shared):Prop:=∃ vs H',Inv X pins σ H' s' /\ Vals vs us /\ Q vs H'
def SP(X:Cx)(pins:List (Addr × Obj))(D:Ends)(f:Flow)(s':Shared):Prop:=
 match f with
 | .next=>∃ σ' H',Inv X pins σ' H' s' /\ D.nx σ' H'
 | .brk=>∃ σ' H',Inv X pins σ' H' s' /\ D.bk σ' H'
 | .cont=>∃ σ' H',Inv X pins σ' H' s' /\ D.ct σ' H'
 | .ret u=>∃ v σ' H',Inv X pins σ' H' s' /\ RelV v u /\ D.rt v H'
def PE(X:Cx)(e:Expr)(t:TE):Prop:=
 ∀ (pins:List (Addr × Obj)) (s:Shared) (σ:St) (H:Hp) (Q:VK),Inv X pins σ H s->t σ H Q->wpAny (model X.prog X.w) X.A (eval e X.env) (EP X pins σ Q) X.xe s
def PT(X:Cx)(e:Expr)(t:TT):Prop:=
 ∀ (pins:List (Addr × Obj)) (s:Shared) (σ:St) (H:Hp) (Q:Bool->Hp->Prop),Inv X pins σ H s->t σ H Q->wpAny (model X.prog X.w) X.A (isTrue e X.env (eval e X.env)) (TP X pins σ Q) X.xe s
def PW(X:Cx)(e:Expr)(t:TT):Prop:=
 ∀ (whole:Sem Value) (pins:List (Addr × Obj)) (s:Shared) (σ:St) (H:Hp) (Q:Bool->Hp->Prop),Inv X pins σ H s->t σ H Q->wpAny (model X.prog X.w) X.A (isTrue e X.env whole) (TP X pins σ Q) X.xe s
theorem PW.pt{X:Cx}{e:Expr}{t:TT}(h:PW X e t):PT X e t:=h _
def PA(X:Cx)(es:List Expr)(t:TA):Prop:=
 ∀ (pos:Pos) (pins:List (Addr × Obj)) (s:Shared) (σ:St) (H:Hp) (Q:List V->Hp->Prop),Inv X pins σ H s->t σ H Q->wpAny (model X.prog X.w) X.A (spliced (backTo pos (starEach es X.env))) (AP X pins σ Q) X.xe s
def PS(X:Cx)(st:Stmt)(t:TS):Prop:=
 ∀ (pins:List (Addr × Obj)) (s:Shared) (σ:St) (H:Hp) (D:Ends),Inv X pins σ H s->t D σ H->wpAny (model X.prog X.w) X.A (exec st X.env) (SP X pins D) X.xe s
def PSs(X:Cx)(st:List Stmt)(t:TS):Prop:=
 ∀ (pins:List (Addr × Obj)) (s:Shared) (σ:St) (H:Hp) (D:Ends),Inv X pins σ H s->t D σ H->wpAny (model X.prog X.w) X.A (execs st X.env) (SP X pins D) X.xe s
theorem thn{α:Type}{t:Sem α}{Q Q':α->Shared->Prop}{M:Model}{A:Around}{E:Value->Shared->Prop}{s:Shared}(h:wpAny M A t Q E s)(hQ:∀ a s,Q a s->Q' a s):wpAny M A t Q' E s:=wpAny_mono h hQ fun _ _ x=>x
end L2
namespace L2
open PySem PySem.Spec PyProof.Rows
section
variable {X:Cx}
def tVar(i:Nat):TE:=fun σ H Q=>∃ v,σ[i]?=some (some v) /\ Q v H
def tC(v:V):TE:=fun _ H Q=>Q v H
theorem pe_var {i:Nat} {x:Str} {pos:Pos} (hN:X.N[i]?=some x) (hv:Vis X.env.scope x) (hd:(x==("__debug__":Str))=false:=by decide) (hcd:(x==("__classdict__":Str))=false:=by decide):PE X (.Name x pos) (tVar i):=by
 intro pins s σ H Q I h
 obtain ⟨v,e,h⟩:=h
 obtain ⟨m,hn,hl⟩:=I.loc
 obtain ⟨u,r,l⟩:=hl i x v hN e hv
 have fin:EP X pins σ Q u s:=⟨v,H,I,r,h⟩
 rcases l with ⟨hk,hm⟩ | ⟨hk,c,hc,hcell⟩
 ·exact wpAny_Name (wpAny_loadName_local I.ok.kind hk hn hm fin) hd
 ·rcases hk with hk | hk
  ·exact wpAny_Name (wpAny_loadName_cell I.ok.kind hk hc hcell fin) hd
  ·exact wpAny_Name (wpAny_loadName_free I.ok.kind hk hc hcell fin hcd) hd
theorem pe_int{i j pos}:PE X (.Constant (.int i) j pos) (tC (.int i)):=fun _ _ _ H _ I h=>wpAny_Constant_int ⟨.int i,H,I.tok _,⟨_,rfl⟩,h⟩
theorem pe_bl{b j pos}:PE X (.Constant (.bool b) j pos) (tC (.bl b)):=fun _ _ _ H _ I h=>Constant_bool ⟨.bl b,H,I,rfl,h⟩
theorem pe_str{x j pos}:PE X (.Constant (.str x) j pos) (tC (.str x)):=fun _ _ _ H _ I h=>Calls.Constant_str ⟨.str x,H,I.tok _,⟨_,rfl⟩,h⟩
def Gl(X:Cx)(x:Str):Prop:=X.env.kindOf x=some .globalImplicit
theorem ld_glob{E:Value->Shared->Prop}{pins:List (Addr × Obj)}{s:Shared}{σ:St}{H:Hp}{x:Str}{u:Value}{pos:Pos}{Q:Value->Shared->Prop}(I:Inv X pins σ H s)(hg:Gl X x)(hm:X.mg x=some u)(h:Q u s)
  (hd:(x==("__debug__":Str))=false:=by decide):wpAny (model X.prog X.w) X.A (eval (.Name x pos) X.env) Q E s:=
 Calls.Name_function_global I.ok.kind hg (Calls.loadGlobal_global (by rw [I.ok.glob];exact I.mod.glob.keeps I.bk) hm h) hd
theorem ld_blt{E:Value->Shared->Prop}{pins:List (Addr × Obj)}{s:Shared}{σ:St}{H:Hp}{x:Str}{u:Value}{pos:Pos}{Q:Value->Shared->Prop}(I:Inv X pins σ H s)(hg:Gl X x)(hm:X.mg x=none)(hv:bootBuiltins x=some u)(h:Q u s)
  (hn:x ≠ "__name__":=by decide) (hd:(x==("__debug__":Str))=false:=by decide):wpAny (model X.prog X.w) X.A (eval (.Name x pos) X.env) Q E s:=by
 obtain ⟨mb,h1,h2⟩:=I.mod.blt
 exact Calls.Name_function_global I.ok.kind hg (Calls.loadGlobal_builtin (by rw [I.ok.glob];exact I.mod.glob.keeps I.bk) hm (by rw [I.ok.blt];exact h1.keeps I.bk) ((h2 x hn).trans hv) h) hd
theorem pe_glob {x:Str} {v:V} {u:Value} {pos:Pos} (hg:Gl X x) (hm:X.mg x=some u) (r:RelV v u) (hd:(x==("__debug__":Str))=false:=by decide):PE X (.Name x pos) (tC v):=
 fun _ _ _ H _ I h=>ld_glob I hg hm ⟨v,H,I,r,h⟩ hd
theorem pe_bltn {x:Str} {v:V} {u:Value} {pos:Pos} (hg:Gl X x) (hm:X.mg x=none) (hv:bootBuiltins x=some u) (r:RelV v u) (hn:x ≠ "__name__":=by decide) (hd:(x==("__debug__":Str))=false:=by decide):PE X (.Name x pos) (tC v):=
 fun _ _ _ H _ I h=>ld_blt I hg hm hv ⟨v,H,I,r,h⟩ hn hd
variable {a b:Expr} {ta tb:TE} {pos:Pos}
variable {tA tB':TT} {rest:List Expr}
def tAnd(t u:TT):TT:=fun σ H Q=>t σ H fun c H1=>if c=true then u σ H1 Q else Q false H1
def tOr(t u:TT):TT:=fun σ H Q=>t σ H fun c H1=>if c=true then Q true H1 else u σ H1 Q
def tNot(t:TT):TT:=fun σ H Q=>t σ H fun c H1=>Q (!c) H1
theorem pw_and1(ha:PT X a tA):PW X (.BoolOp .And [a] pos) tA:=by
 intro wh pins s σ H Q I h
 refine isTrue_and (thn (ha pins s σ H Q I h) fun c s1 e=>?_)
 cases c with
 | true=>exact isTrue_and_nil e
 | false=>exact e
theorem pw_or1(ha:PT X a tA):PW X (.BoolOp .Or [a] pos) tA:=by
 intro wh pins s σ H Q I h
 refine isTrue_or (thn (ha pins s σ H Q I h) fun c s1 e=>?_)
 cases c with
 | false=>exact isTrue_or_nil e
 | true=>exact e
theorem pw_and(ha:PT X a tA)(hb:PW X (.BoolOp .And (b :: rest) pos) tB'):PW X (.BoolOp .And (a :: b :: rest) pos) (tAnd tA tB'):=by
 intro wh pins s σ H Q I h
 refine isTrue_and (thn (ha pins s σ H _ I h) fun c s1 ⟨H1,I1,q1⟩=>?_)
 cases c with
 | true=>exact hb wh pins s1 σ H1 Q I1 q1
 | false=>exact ⟨H1,I1,q1⟩
theorem pw_or(ha:PT X a tA)(hb:PW X (.BoolOp .Or (b :: rest) pos) tB'):PW X (.BoolOp .Or (a :: b :: rest) pos) (tOr tA tB'):=by
 intro wh pins s σ H Q I h
 refine isTrue_or (thn (ha pins s σ H _ I h) fun c s1 ⟨H1,I1,q1⟩=>?_)
 cases c with
 | true=>exact ⟨H1,I1,q1⟩
 | false=>exact hb wh pins s1 σ H1 Q I1 q1
theorem pt_not(ha:PT X a tA):PT X (.UnaryOp .Not a pos) (tNot tA):=by
 intro pins s σ H Q I h
 exact isTrue_not (ha pins s σ H (fun c H1=>Q (!c) H1) I h)
def tAndV(ta tb:TE):TE:=fun σ H Q=>ta σ H fun x H1=>∃ c,x=.bl c /\ if c=true then tb σ H1 Q else Q (.bl false) H1
def tNotV(ta:TE):TE:=fun σ H Q=>ta σ H fun x H1=>∃ c,x=.bl c /\ Q (.bl (!c)) H1
theorem pe_one{op}{t:TE}(h:PE X a t):PE X (.BoolOp op [a] pos) t:=fun pins s σ H Q I hw=>BoolOp_one (h pins s σ H Q I hw)
theorem pe_and(ha:PE X a ta)(hb:PE X (.BoolOp .And (b :: rest) pos) tb):PE X (.BoolOp .And (a :: b :: rest) pos) (tAndV ta tb):=by
 intro pins s σ H Q I h
 refine BoolOp_and (thn (ha pins s σ H _ I h) fun v s1 ⟨x,H1,I1,r1,q1⟩=>?_)
 obtain ⟨c,rfl,q1⟩:=q1
 cases r1
 refine wpAny_truthy_bool ?_
 cases c with
 | true=>exact hb pins s1 σ H1 Q I1 q1
 | false=>exact ⟨.bl false,H1,I1,rfl,q1⟩
theorem pe_not(ha:PE X a ta):PE X (.UnaryOp .Not a pos) (tNotV ta):=by
 intro pins s σ H Q I h
 refine UnaryOp_ (thn (ha pins s σ H _ I h) fun v s1 ⟨x,H1,I1,r1,q1⟩=>?_)
 obtain ⟨c,rfl,q1⟩:=q1
 cases r1
 exact not_of (wpAny_truthy_bool ⟨.bl (!c),H1,I1,rfl,q1⟩)
def tIf(t:TT)(ta tb:TE):TE:=fun σ H Q=>t σ H fun c H1=>if c=true then ta σ H1 Q else tb σ H1 Q
theorem pe_ifExp{c:Expr}(hc:PT X c tA)(ha:PE X a ta)(hb:PE X b tb):PE X (.IfExp c a b pos) (tIf tA ta tb):=by
 intro pins s σ H Q I h
 refine wpAny_IfExp (thn (hc pins s σ H _ I h) fun d s1 ⟨H1,I1,q1⟩=>?_)
 cases d with
 | true=>exact ha pins s1 σ H1 Q I1 q1
 | false=>exact hb pins s1 σ H1 Q I1 q1
end
end L2
namespace L2
open PySem PySem.Spec PyProof.Rows
def SqL(K:PySem.W.Frag)(H:Hp)(a:Addr)(xs:List V):Prop:=
 Rd H a (.lst xs) \/
  ∃ (o:Obj) (its:Array Value) (n:Nat),K.lookup a=some o /\ o.cls=.type "list" /\ o.dict=none /\ o.data=.seq its n /\ its.size <= sizeLine /\ Vals xs its.toList
def SqT(K:PySem.W.Frag)(H:Hp)(a:Addr)(xs:List V):Prop:=
 Rd H a (.tup xs) \/
  ∃ (o:Obj) (its:Array Value) (n:Nat),K.lookup a=some o /\ o.cls=.type "tuple" /\ o.data=.seq its n /\ its.size <= sizeLine /\ Vals xs its.toList
def absV:Value->Option V
 | .none=>some .non
 | .bool b=>some (.bl b)
 | .int i _=>some (.int i)
 | .str x _=>some (.str x)
 | .bytes b _=>some (.byt b)
 | .float b _=>some (.flt b)
 | .ref a=>some (.ref a)
 | .type n=>some (.ty n)
 | _=>none
theorem RelV.abs{x:V}{u:Value}(r:RelV x u):absV u=some x:=by
 cases x with
 | non=>cases r;rfl
 | bl _=>cases r;rfl
 | int _=>obtain ⟨t,rfl⟩:=r;rfl
 | str _=>obtain ⟨t,rfl⟩:=r;rfl
 | byt _=>obtain ⟨t,rfl⟩:=r;rfl
 | flt _=>obtain ⟨t,rfl⟩:=r;rfl
 | ref _=>cases r;rfl
 | ty _=>cases r;rfl
theorem RelV.inj{x y:V}{u:Value}(r:RelV x u)(q:RelV y u):x=y:=Option.some.inj (r.abs.symm.trans q.abs)
theorem Vals.inj:∀ {xs ys:List V} {us:List Value},Vals xs us->Vals ys us->xs=ys
 | _,_,_,.nil,.nil=>rfl
 | _,_,_,.cons r t,.cons r' t'=>by rw [r.inj r',Vals.inj t t']
section
variable {X:Cx} {pins:List (Addr × Obj)} {σ:St} {H:Hp} {s:Shared} {a:Addr} {xs ys:List V}
theorem SqL.of{K:PySem.W.Frag}(h:H a=some (.lst xs)):SqL K H a xs:=.inl (.inl h)
theorem SqT.of{K:PySem.W.Frag}(h:H a=some (.tup xs)):SqT K H a xs:=.inl (.inl h)
theorem Inv.list(I:Inv X pins σ H s)(h:SqL X.K H a xs):∃ its:List Value,Vals xs its /\ PlainL s.heap a its.toArray /\ xs.length <= sizeLine:=by
 rcases h with h | ⟨o,its,n,hk,hc,hd,hs,hz,r⟩
 ·obtain ⟨z,its,n,r,e⟩:=h.ok I.hok
  exact ⟨its,r,⟨_,n,e,rfl,rfl,rfl⟩,z⟩
 ·refine ⟨its.toList,r,⟨o,n,I.kIn a o hk,hc,hd,by simpa using hs⟩,?_⟩
  have e:=r.length
  simp only [Array.length_toList] at e
  omega
theorem Inv.tuple(I:Inv X pins σ H s)(h:SqT X.K H a xs):∃ its:List Value,Vals xs its /\ IsTup s.heap a its.toArray /\ xs.length <= sizeLine:=by
 rcases h with h | ⟨o,its,n,hk,hc,hs,hz,r⟩
 ·obtain ⟨z,its,r,p⟩:=h.ok I.hok
  exact ⟨its,r,p,z⟩
 ·refine ⟨its.toList,r,⟨o,I.kIn a o hk,hc,n,by simpa using hs⟩,?_⟩
  have e:=r.length
  simp only [Array.length_toList] at e
  omega
theorem Inv.list_inj(I:Inv X pins σ H s)(h:SqL X.K H a xs)(h':SqL X.K H a ys):xs=ys:=by
 obtain ⟨its,r,⟨o,n,e,_,_,d⟩,_⟩:=I.list h
 obtain ⟨its',r',⟨o',n',e',_,_,d'⟩,_⟩:=I.list h'
 rw [e] at e';cases e'
 rw [d] at d'
 injection d' with d1 _
 have:its=its':=by simpa using congrArg Array.toList d1
 subst this
 exact r.inj r'
end
abbrev Cx.wish(X:Cx)(E:Value->Shared->Prop):Cx:={ X with xe:=E }
abbrev Cx.nox(X:Cx):Cx:=X.wish fun _ _=>False
theorem Cx.Ok.wish{X:Cx}(ok:X.Ok)(E:Value->Shared->Prop):(X.wish E).Ok:=
 ⟨ok.mod,ok.kind,ok.glob,ok.blt,ok.above,ok.inj,ok.has,ok.cab,ok.hd,ok.frames,ok.stk,ok.exf,ok.bs,ok.bsz,ok.noex,ok.exfs,ok.funs,ok.frf⟩
theorem Cx.Ok.unwish{X:Cx}{E:Value->Shared->Prop}(ok:(X.wish E).Ok):X.Ok:=
 ⟨ok.mod,ok.kind,ok.glob,ok.blt,ok.above,ok.inj,ok.has,ok.cab,ok.hd,ok.frames,ok.stk,ok.exf,ok.bs,ok.bsz,ok.noex,ok.exfs,ok.funs,ok.frf⟩
section
variable {X:Cx} {pins:List (Addr × Obj)} {σ:St} {H:Hp} {s:Shared} {E:Value->Shared->Prop}
theorem Inv.wish(I:Inv X pins σ H s)(E:Value->Shared->Prop):Inv (X.wish E) pins σ H s:=⟨I.ok.wish E,I.os,I.bare,I.base,I.loc,I.cell,I.free,I.freeC,I.pin,I.hok,I.len⟩
theorem Inv.unwish(I:Inv (X.wish E) pins σ H s):Inv X pins σ H s:=⟨I.ok.unwish,I.os,I.bare,I.base,I.loc,I.cell,I.free,I.freeC,I.pin,I.hok,I.len⟩
theorem SP.unwish{D:Ends}{f:Flow}{s':Shared}(h:SP (X.wish E) pins D f s'):SP X pins D f s':=by
 cases f with
 | next=>obtain ⟨σ',H',I,q⟩:=h;exact ⟨σ',H',I.unwish,q⟩
 | brk=>obtain ⟨σ',H',I,q⟩:=h;exact ⟨σ',H',I.unwish,q⟩
 | cont=>obtain ⟨σ',H',I,q⟩:=h;exact ⟨σ',H',I.unwish,q⟩
 | ret u=>obtain ⟨v,σ',H',I,r,q⟩:=h;exact ⟨v,σ',H',I.unwish,r,q⟩
theorem PSs.nox{st:List Stmt}{t:TS}(h:PSs X.nox st t):PSs X st t:=fun pins s σ H D I hw=>
 wpAny_mono (h pins s σ H D (I.wish _) hw) (fun _ _ q=>q.unwish) fun _ _ z=>False.elim z
end
section
variable {X:Cx} {st:Stmt} {rest:List Stmt} {t u:TS} {e:Expr} {te:TE} {pos:Pos}
def tNext:TS:=fun D σ H=>D.nx σ H
def tSeq(t u:TS):TS:=fun D σ H=>t { D with nx:=u D } σ H
theorem pss_nil:PSs X [] tNext:=fun _ _ σ H _ I h=>wpAny_execs_nil ⟨σ,H,I,h⟩
theorem pss_cons(h1:PS X st t)(h2:PSs X rest u):PSs X (st :: rest) (tSeq t u):=by
 intro pins s σ H D I h
 refine wpAny_execs_cons (thn (h1 pins s σ H { D with nx:=u D } I h) fun f s1 q=>?_)
 cases f with
 | next=>
  obtain ⟨σ',H',I',q⟩:=q
  exact h2 pins s1 σ' H' D I' q
 | ret v=>exact q
 | brk=>exact q
 | cont=>exact q
theorem pss_one(h1:PS X st t):PSs X [st] t:=by
 intro pins s σ H D I h
 refine wpAny_execs_cons (thn (h1 pins s σ H D I h) fun f s1 q=>?_)
 cases f with
 | next=>exact wpAny_execs_nil q
 | ret v=>exact q
 | brk=>exact q
 | cont=>exact q
theorem Inv.quiet{pins:List (Addr × Obj)}{σ:St}{H:Hp}{s:Shared}(I:Inv X pins σ H s):interactive X.env=false:=by simp [interactive,I.ok.kind]
def tDrop(te:TE):TS:=fun D σ H=>te σ H fun _ H1=>D.nx σ H1
theorem ps_expr(he:PE X e te)(hs:swapsWith e none pos.line X.env=pure false:=by rfl):PS X (.Expr e pos) (tDrop te):=by
 intro pins s σ H D I h
 exact wpAny_Expr_any (thn (he pins s σ H _ I h) fun v s1 ⟨x,H1,I1,r1,q1⟩=>⟨σ,H1,I1,q1⟩) I.quiet hs
def tRet(te:TE):TS:=fun D σ H=>te σ H D.rt
theorem ps_ret(he:PE X e te):PS X (.Return (some e) pos) (tRet te):=by
 intro pins s σ H D I h
 exact wpAny_Return_some (thn (he pins s σ H _ I h) fun v s1 ⟨x,H1,I1,r1,q1⟩=>⟨x,σ,H1,I1,r1,q1⟩)
def tRetN:TS:=fun D _ H=>D.rt .non H
theorem ps_retN:PS X (.Return none pos) tRetN:=fun _ _ σ H _ I h=>wpAny_Return_none ⟨.non,σ,H,I,rfl,h⟩
def tIfS(c:TT)(t u:TS):TS:=fun D σ H=>c σ H fun b H1=>if b=true then t D σ H1 else u D σ H1
theorem ps_if{c:Expr}{a b:List Stmt}{tc:TT}(hc:PT X c tc)(ha:PSs X a t)(hb:PSs X b u):PS X (.If c a b pos) (tIfS tc t u):=by
 intro pins s σ H D I h
 refine wpAny_If (thn (hc pins s σ H _ I h) fun d s1 ⟨H1,I1,q1⟩=>?_)
 cases d with
 | true=>exact ha pins s1 σ H1 D I1 q1
 | false=>exact hb pins s1 σ H1 D I1 q1
def tNever:TS:=fun _ _ _=>False
theorem ps_never:PS X st tNever:=fun _ _ _ _ _ _ h=>h.elim
end
abbrev TG:=V->St->Hp->(St->Hp->Prop)->Prop
abbrev TGs:=List V->St->Hp->(St->Hp->Prop)->Prop
def PG(X:Cx)(target:Expr)(t:TG):Prop:=
 ∀ (pins:List (Addr × Obj)) (s:Shared) (σ:St) (H:Hp) (v:V) (u:Value) (Q:St->Hp->Prop),Inv X pins σ H s->RelV v u->t v σ H Q->
  wpAny (model X.prog X.w) X.A (assign target X.env u) (fun _ s'=>∃ σ' H',Inv X pins σ' H' s' /\ Q σ' H') X.xe s
def PGs(X:Cx)(ts:List Expr)(t:TGs):Prop:=
 ∀ (pins:List (Addr × Obj)) (s:Shared) (σ:St) (H:Hp) (vs:List V) (us:List Value) (Q:St->Hp->Prop),Inv X pins σ H s->Vals vs us->t vs σ H Q->
  wpAny (model X.prog X.w) X.A (assignInOrder ((assignEach ts X.env).map (·.2)) us) (fun _ s'=>∃ σ' H',Inv X pins σ' H' s' /\ Q σ' H') X.xe s
abbrev TSet:=V->V->V->Hp->(Hp->Prop)->Prop
def PSet(X:Cx)(t:TSet):Prop:=
 ∀ (pins:List (Addr × Obj)) (s:Shared) (σ:St) (H:Hp) (o i v:V) (ov iv u:Value) (Q:Hp->Prop),Inv X pins σ H s->RelV o ov->RelV i iv->RelV v u->t o i v H Q->
  wpAny (model X.prog X.w) X.A (setItem ov iv u) (fun _ s'=>∃ H',Inv X pins σ H' s' /\ Q H') X.xe s
abbrev TIp:=V->V->Hp->VK->Prop
def PIp(X:Cx)(op:Operator)(t:TIp):Prop:=
 ∀ (pins:List (Addr × Obj)) (s:Shared) (σ:St) (H:Hp) (x y:V) (v u:Value) (Q:VK),Inv X pins σ H s->RelV x v->RelV y u->t x y H Q->
  wpAny (model X.prog X.w) X.A (inplaceOp op v u) (EP X pins σ Q) X.xe s
section
variable {X:Cx} {pos:Pos}
def gName(i:Nat):TG:=fun v σ H Q=>Q (σ.set i (some v)) H
theorem pg_name{i:Nat}{x:Str}(hN:X.N.Nodup)(hi:X.N[i]?=some x)(hx:Loc X.env.scope x)(hf:X.fn x=true \/ X.env.scope.names.lookup x=some .local:=by first | exact .inl rfl | exact .inr rfl | assumption):PG X (.Name x pos) (gName i):=by
 intro pins s σ H v u Q I r h
 exact wpAny_assign_Name (store_ok I hN hi hx r (fun s' I'=>⟨_,H,I',h⟩) hf)
def gNil:TGs:=fun vs σ H Q=>vs=[] /\ Q σ H
def gCons(t:TG)(u:TGs):TGs:=fun vs σ H Q=>∃ v r,vs=v :: r /\ t v σ H fun σ' H'=>u r σ' H' Q
theorem pgs_nil:PGs X [] gNil:=by
 intro pins s σ H vs us Q I r h
 obtain ⟨e,h⟩:=h
 subst e
 cases r
 exact assignInOrder_nil ⟨σ,H,I,h⟩
theorem pgs_cons{e:Expr}{es:List Expr}{t:TG}{u:TGs}(h1:PG X e t)(h2:PGs X es u)
  (hs:(assignEach (e :: es) X.env).map (·.2)=assign e X.env :: (assignEach es X.env).map (·.2):=by rfl):PGs X (e :: es) (gCons t u):=by
 intro pins s σ H vs us Q I r h
 obtain ⟨v,vr,e1,h⟩:=h
 subst e1
 cases r with
 | cons r rr=>
  rw [hs]
  refine assignInOrder_cons (thn (h1 pins s σ H _ _ _ I r h) fun _ s1 ⟨σ1,H1,I1,q1⟩=>?_)
  exact h2 pins s1 σ1 H1 _ _ Q I1 rr q1
def gTup(K:PySem.W.Frag)(n:Nat)(t:TGs):TG:=fun v σ H Q=>∃ a xs,v=.ref a /\ SqT K H a xs /\ xs.length=n /\ t xs σ H Q
theorem pg_tup{es:List Expr}{k:Nat}{t:TGs}{n:Nat}(hc:X.calm=true)(h:PGs X es t)
  (hn:(assignEach es X.env).length=n:=by rfl) (hst:(assignEach es X.env).findIdx? (·.1)=none:=by rfl):PG X (.Tuple es k pos) (gTup X.K n t):=by
 intro pins s σ H v u Q I r hw
 obtain ⟨a,xs,e1,hq,hl,hw⟩:=hw
 subst e1
 cases r
 obtain ⟨its,rv,ht,hz⟩:=I.tuple hq
 refine assign_Tuple_tuple (I.ok.hd hc) ht (by simp [hn,<- hl,rv.length]) hst fun h' hx=>?_
 have I1:Inv X pins σ H { s with heap:=h' }:=I.kept (t':=s.toks) fun b o e=>hx b o (Nat.ne_of_lt (Heap.lt_size e)) e
 exact h pins _ σ H xs _ Q I1 (by simpa using rv) hw
def gSub(to ti:TE)(t:TSet):TG:=fun v σ H Q=>to σ H fun o H1=>ti σ H1 fun i H2=>t o i v H2 fun H3=>Q σ H3
theorem pg_sub{o i:Expr}{to ti:TE}{t:TSet}(ho:PE X o to)(hi:PE X i ti)(hs:PSet X t)
  (ha:∀ v,assign (.Subscript o i pos) X.env v=(do
   let ov <- holding [v] (eval o X.env)
   let iv <- holding [v,ov] (eval i X.env)
   standAt pos
   holding [v,ov,iv] (setItem ov iv v)
   release [v,ov,iv] []):=by intro _;rfl):PG X (.Subscript o i pos) (gSub to ti t):=by
 intro pins s σ H v u Q I r h
 rw [ha]
 refine wpAny_bind (wpAny_holding (thn (ho pins s σ H _ I h) fun ov s1 ⟨x,H1,I1,r1,q1⟩=>?_))
 refine wpAny_bind (wpAny_holding (thn (hi pins s1 σ H1 _ I1 q1) fun iv s2 ⟨y,H2,I2,r2,q2⟩=>?_))
 refine wpAny_bind (wpAny_standAt (wpAny_bind (wpAny_holding (thn (hs pins s2 σ H2 x y v ov iv u _ I2 r1 r2 r q2) fun _ s3 ⟨H3,I3,q3⟩=>?_))))
 exact wpAny_release ⟨σ,H3,I3,q3⟩
def tAsg(te:TE)(g:TG):TS:=fun D σ H=>te σ H fun x H1=>g x σ H1 D.nx
theorem ps_asg{tg e:Expr}{te:TE}{g:TG}(he:PE X e te)(hg:PG X tg g)(hs:swapsWithSole [tg] e pos.line X.env=pure false:=by rfl)(hw:swappedStores [tg] e X.env=pure none:=by rfl)
  (h1:(assignEach [tg] X.env).map (·.2)=[assign tg X.env]:=by rfl):PS X (.Assign [tg] e pos) (tAsg te g):=by
 intro pins s σ H D I h
 refine wpAny_Assign_stores (thn (he pins s σ H _ I h) fun v s1 ⟨x,H1,I1,r1,q1⟩=>?_) hs hw
 rw [h1]
 exact thn (hg pins s1 σ H1 x v _ I1 r1 q1) fun _ s2 q=>q
theorem ps_set{i:Nat}{x:Str}{e:Expr}{te:TE}{pos':Pos}(hN:X.N.Nodup)(hi:X.N[i]?=some x)(hx:Loc X.env.scope x)(he:PE X e te)(hs:swapsWith e (some (.Name x pos')) pos.line X.env=pure false:=by rfl)(hf:X.fn x=true \/ X.env.scope.names.lookup x=some .local:=by first | exact .inl rfl | exact .inr rfl | assumption):
  PS X (.Assign [.Name x pos'] e pos) (tAsg te (gName i)):=by
 intro pins s σ H D I h
 refine wpAny_Assign_Name (thn (he pins s σ H _ I h) fun v s1 ⟨y,H1,I1,r1,q1⟩=>?_) hs
 exact store_ok I1 hN hi hx r1 (fun s2 I2=>⟨_,H1,I2,q1⟩) hf
def tPar(i j:Nat)(ta:TA):TS:=fun D σ H=>ta σ H fun vs H1=>∃ v w,vs=[v,w] /\ D.nx ((σ.set i (some v)).set j (some w)) H1
theorem ps_par{i j:Nat}{x y:Str}{a b:Expr}{ta:TA}{px py pt:Pos}{kt k2 pt2}(hc:X.calm=true)(hN:X.N.Nodup)(hi:X.N[i]?=some x)(hj:X.N[j]?=some y)(hij:i≠j)
  (hx:X.env.scope.names.lookup x=some .local) (hy:X.env.scope.names.lookup y=some .local) (ha:PA X [a,b] ta)
  (hw:swappedStores [.Tuple [.Name x px,.Name y py] kt pt] (.Tuple [a,b] k2 pt2) X.env=pure (some [x,y]))
  (hs:swapsWithSole [.Tuple [.Name x px,.Name y py] kt pt] (.Tuple [a,b] k2 pt2) pos.line X.env=pure false:=by rfl):
  PS X (.Assign [.Tuple [.Name x px,.Name y py] kt pt] (.Tuple [a,b] k2 pt2) pos) (tPar i j ta):=by
 intro pins s σ H D I h
 rw [exec_Assign_arm]
 refine wpAny_bind (wpAny_standAt ?_)
 rw [hs]
 refine wpAny_bind (wpAny_pure ?_)
 rw [if_neg (by decide)]
 refine wpAny_bind (Tuple_ (thn (ha _ pins s σ H _ I h) fun us s1 ⟨vs,H1,I1,r1,q1⟩=>?_))
 obtain ⟨v,w,e1,q1⟩:=q1
 subst e1
 obtain ⟨u1,u2,rfl,rv,rw'⟩:∃ u1 u2,us=[u1,u2] /\ RelV v u1 /\ RelV w u2:=by
  cases r1 with
  | cons p q=>
   cases q with
   | cons p' q'=>
    cases q'
    exact ⟨_,_,rfl,p,p'⟩
 refine wpAny_newObj_type ?_ (by show 2 <= sizeLine;decide)
 have I2:Inv X pins σ H1 { s1 with heap:=s1.heap.push { cls:=.type "tuple",data:=.seq [u1,u2].toArray } }:=I1.kept (t':=s1.toks) fun b o e=>Heap.get?_push_of_some _ e
 rw [hw]
 refine wpAny_bind (wpAny_pure ?_)
 show wpAny (model X.prog X.w) X.A (do rule "assign.swapped-stores";let items <- unpackItems (.ref s1.heap.objs.size) 2 none;assignInOrder [fun v=>bindName X.env y v,fun v=>bindName X.env x v] items.reverse;pure Flow.next) _ _ _
 refine wpAny_bind (wpAny_rule (wpAny_bind (unpackItems_tuple (items:=#[u1,u2]) (I.ok.hd hc) (IsTup.new s1.heap _) fun h' hx'=>?_)))
 have I3:=I2.kept (h':=h') (t':=s1.toks) fun b o e=>hx' b o (Nat.ne_of_lt (Heap.lt_size e)) e
 show wpAny _ _ (assignInOrder [fun v=>bindName X.env y v,fun v=>bindName X.env x v] [u2,u1] >>= fun _=>pure Flow.next) _ _ _
 refine wpAny_bind (assignInOrder_cons (wpAny_bindName (store_ok I3 hN hj (.inl hy) rw' (fun s2 I4=>?_) (.inr hy))))
 refine assignInOrder_cons (wpAny_bindName (store_ok I4 hN hi (.inl hx) rv (fun s3 I5=>assignInOrder_nil (wpAny_pure ?_)) (.inr hx)))
 rw [List.set_comm _ _ (Ne.symm hij)] at I5
 exact ⟨_,H1,I5,q1⟩
def tAug(i:Nat)(te:TE)(ti:TIp):TS:=fun D σ H=>∃ x,σ[i]?=some (some x) /\ te σ H fun y H1=>ti x y H1 fun z H2=>D.nx (σ.set i (some z)) H2
theorem ps_aug{i:Nat}{x:Str}{e:Expr}{te:TE}{op:Operator}{ti:TIp}{pos':Pos}(hN:X.N.Nodup)(hi:X.N[i]?=some x)(hx:Loc X.env.scope x)(he:PE X e te)(ho:PIp X op ti)(hf:X.fn x=true \/ X.env.scope.names.lookup x=some .local:=by first | exact .inl rfl | exact .inr rfl | assumption):
  PS X (.AugAssign (.Name x pos') op e pos) (tAug i te ti):=by
 intro pins s σ H D I h
 obtain ⟨v,e1,h⟩:=h
 obtain ⟨m,hn,hl⟩:=I.loc
 have vis:Vis X.env.scope x:=by rcases hx with k | k;exact .inl k;exact .inr (.inl k)
 obtain ⟨u,r,l⟩:=hl i x v hi e1 vis
 refine wpAny_AugAssign_Name ?_
 have go:wpAny (model X.prog X.w) X.A (eval e X.env) (fun w s₂=>wpAny (model X.prog X.w) X.A (inplaceOp op u w) (fun r s₃=>wpAny (model X.prog X.w) X.A (storeName X.env x r) (fun _=>SP X pins D .next) X.xe s₃) X.xe s₂) X.xe s:=by
  refine thn (he pins s σ H _ I h) fun w s1 ⟨y,H1,I1,r1,q1⟩=>?_
  refine thn (ho pins s1 σ H1 v y u w _ I1 r r1 q1) fun z s2 ⟨zv,H2,I2,r2,q2⟩=>?_
  exact store_ok I2 hN hi hx r2 (fun s3 I3=>⟨_,H2,I3,q2⟩) hf
 rcases l with ⟨hk,hm⟩ | ⟨hk,c,hc,hcell⟩
 ·exact wpAny_loadName_local I.ok.kind hk hn hm go
 ·rcases hk with hk | hk
  ·exact wpAny_loadName_cell I.ok.kind hk hc hcell go
  ·rcases hx with k | k
   ·have:X.env.scope.names.lookup x=some .free:=hk
    rw [k] at this;cases this
   ·have:X.env.scope.names.lookup x=some .free:=hk
    rw [k] at this;cases this
def ipI(f:Int->Int->Int):TIp:=fun x y H Q=>∃ i j,x=.int i /\ y=.int j /\ Q (.int (f i j)) H
theorem ip_add:PIp X .Add (ipI fun i j=>i+j):=by
 intro pins s σ H x y v u Q I r1 r2 h
 obtain ⟨i,j,e1,e2,q⟩:=h
 subst e1;subst e2
 obtain ⟨t,rfl⟩:=r1
 obtain ⟨t',rfl⟩:=r2
 exact iadd_int ⟨.int _,H,I.tok _,⟨_,rfl⟩,q⟩
end
section
variable {X:Cx} {pos:Pos}
def tWhile(c:TT)(tb:TS):TS:=fun D σ H=>∃ W:Nat->St->Hp->Prop,(∃ m,W m σ H) /\ ∀ m σ H,W m σ H->
 c σ H fun b H1=>if b=true then ∃ N:St->Hp->Prop,(∀ σ' H',N σ' H'->∃ m',m' < m /\ W m' σ' H') /\ tb { D with nx:=N,ct:=N,bk:=D.nx } σ H1 else D.nx σ H1
theorem ps_while{c:Expr}{body:List Stmt}{tc:TT}{tb:TS}(hp:PassesOwn (model X.prog X.w) X.A X.env X.xe)(hc:PT X c tc)(hb:PSs X body tb):PS X (.While c body [] pos) (tWhile tc tb):=by
 intro pins s σ H D I h
 obtain ⟨W,⟨m0,w0⟩,turn⟩:=h
 refine wpAny_While (codeAny_whileLoop (fun n s'=>∃ σ' H',Inv X pins σ' H' s' /\ W n σ' H') ?_ m0 ⟨σ,H,I,w0⟩)
 rintro n s1 ⟨σ1,H1,I1,w1⟩
 refine wpAny_passesOwn hp (thn (hc pins s1 σ1 H1 _ I1 (turn n σ1 H1 w1)) fun b s2 ⟨H2,I2,q2⟩=>?_)
 cases b with
 | true=>
  obtain ⟨N,hN,q2⟩:=q2
  rw [if_pos rfl]
  refine wpAny_passesOwn hp (thn (hb pins s2 σ1 H2 _ I2 q2) fun f s3 q3=>?_)
  cases f with
  | next=>
   obtain ⟨σ3,H3,I3,n3⟩:=q3
   obtain ⟨m',hm,w3⟩:=hN σ3 H3 n3
   exact ⟨m',hm,σ3,H3,I3,w3⟩
  | cont=>
   obtain ⟨σ3,H3,I3,n3⟩:=q3
   obtain ⟨m',hm,w3⟩:=hN σ3 H3 n3
   exact ⟨m',hm,σ3,H3,I3,w3⟩
  | brk=>exact q3
  | ret v=>exact q3
 | false=>
  rw [if_neg Bool.false_ne_true]
  exact wpAny_execs_nil ⟨σ1,H2,I2,q2⟩
end
structure It where
 go:Nat->Hp->Prop
 yld:Nat->Hp->V->Hp->Prop
 stop:Nat->Hp->Prop
def FpOk(X:Cx)(pins:List (Addr × Obj))(H:Hp)(b:Addr):Prop:=
 H b=none /\ b≠X.env.locals /\ b∉X.fs /\ (b∈X.ex \/ X.s₀.heap.objs.size <= b) /\ (∀ x c,X.env.cells.lookup x=some c->c≠b) /\ ∀ p∈X.pn++pins,p.1≠b
theorem Inv.fpOk{X:Cx}{pins:List (Addr × Obj)}{σ:St}{H H':Hp}{s:Shared}{b:Addr}(I:Inv X pins σ H s)(hb:s.heap.objs.size <= b)(hn:H' b=none):FpOk X pins H' b:=by
 refine ⟨hn,Nat.ne_of_gt (Nat.lt_of_lt_of_le I.lt hb),I.nofs hb,.inr (Nat.le_trans I.sz hb),fun x c e z=>?_,fun p hp z=>?_⟩
 ·obtain ⟨v,q⟩:=I.cell x c e
  exact absurd (Nat.lt_of_lt_of_le q.lt (by rw [z];exact hb)) (Nat.lt_irrefl _)
 ·exact absurd (Nat.lt_of_lt_of_le (Heap.lt_size (I.pin p hp).1) (by rw [z];exact hb)) (Nat.lt_irrefl _)
structure Turn(P:Program)(w:World)(K:PySem.W.Frag)(tg:Expr)(J:It)(fp:List Addr)(it:Addr)(tn:Nat->Heap->Prop):Prop where
 mem:it∈fp
 obj:∀ i h,tn i h->∀ b∈fp,∃ o,h.get? b=some o /\ ∀ v,o.data≠.cell v
 keep:∀ i h h',tn i h->(∀ b∈fp,∀ o,h.get? b=some o->h'.get? b=some o)->tn i h'
 item:∀ (X:Cx),X.prog=P->X.w=w->X.K=K->X.calm=true->∀ (i:Nat) (pins:List (Addr × Obj)) (s:Shared) (σ:St) (H:Hp) (E:Value->Shared->Prop),Inv X pins σ H s->(∀ b∈fp,FpOk X pins H b)->tn i s.heap->J.go i H->
  wpAny (model P w) X.A (pyNext (.ref it)) (fun r s1=>∃ u,r=some u /\
   wpAny (model P w) X.A (letOwnedTupleGo tg (.ref it) u) (fun _ s2=>∃ x H',Inv X pins σ H' s2 /\ RelV x u /\ J.yld i H x H' /\ tn (i+1) s2.heap /\ ∀ b∈fp,H' b=none) E s1) E s
 done:∀ (X:Cx),X.prog=P->X.w=w->X.K=K->X.calm=true->∀ (i:Nat) (pins:List (Addr × Obj)) (s:Shared) (σ:St) (H:Hp) (E:Value->Shared->Prop),Inv X pins σ H s->(∀ b∈fp,FpOk X pins H b)->tn i s.heap->J.stop i H->
  wpAny (model P w) X.A (pyNext (.ref it)) (fun r s1=>r=none /\ Inv X pins σ H s1) E s
 self:∀ (A:Around) (i:Nat) (s:Shared) (Q:Value->Shared->Prop) (E:Value->Shared->Prop),tn i s.heap->Q (.ref it) s->wpAny (model P w) A (pyIter (.ref it)) Q E s
abbrev TI:=St->Hp->(It->Hp->Prop)->Prop
def PIE(X:Cx)(pins:List (Addr × Obj))(σ:St)(tg:Expr)(R:It->Hp->Prop)(itv:Value)(s2:Shared):Prop:=
 ∃ (it:Addr) (fp:List Addr) (tn:Nat->Heap->Prop) (J:It) (H':Hp),itv=.ref it /\ Inv X pins σ H' s2 /\ Turn X.prog X.w X.K tg J fp it tn /\ tn 0 s2.heap /\ (∀ b∈fp,FpOk X pins H' b) /\ R J H'
def PI(X:Cx)(tg iter:Expr)(wi:TI):Prop:=
 ∀ (pins:List (Addr × Obj)) (s:Shared) (σ:St) (H:Hp) (R:It->Hp->Prop),Inv X pins σ H s->wi σ H R->
  wpAny (model X.prog X.w) X.A (eval iter X.env) (fun v s1=>wpAny (model X.prog X.w) X.A (pyIter v) (PIE X pins σ tg R) X.xe s1) X.xe s
theorem go_of{M:Model}{A:Around}{E:Value->Shared->Prop}{s:Shared}{tg:Expr}{it:Addr}{u:Value}{o:Obj}{n:String}{vs:Array Value}{Q:Unit->Shared->Prop}(ho:s.heap.get? it=some o)(hc:o.cls=.type n)(hd:o.data=.fields vs)
  (hn:["enumerate", "zip", "dict_itemiterator", "dict_reverseitemiterator", "odict_iterator", "itertools.zip_longest", "itertools.pairwise"].contains n=false) (hQ:Q () s):wpAny M A (letOwnedTupleGo tg (.ref it) u) Q E s:=by
 unfold letOwnedTupleGo
 cases tg<;>first
  | exact wpAny_pure hQ
  | (cases u<;>first
    | exact wpAny_pure hQ
    | (refine wpAny_bind (wpAny_load ho ?_)
       rw [hc,hd]
       show wpAny M A (if (["enumerate", "zip", "dict_itemiterator", "dict_reverseitemiterator", "odict_iterator", "itertools.zip_longest", "itertools.pairwise"].contains n&&vs[0]?==some (rawInt _))=true then _ else _) Q E s
       rw [if_neg (by intro h;rw [hn,Bool.false_and] at h;cases h)]
       exact wpAny_pure hQ))
def Itl(K:PySem.W.Frag)(a:Addr):It:=
 ⟨fun i H=>∃ xs x,SqL K H a xs /\ xs[i]?=some x,fun i H x H'=>H'=H /\ ∀ xs,SqL K H a xs->xs[i]?=some x,fun i H=>∃ xs,SqL K H a xs /\ xs.length <= i⟩
def Itr(lo:Int)(n:Nat):It:=⟨fun i _=>i < n,fun i H x H'=>H'=H /\ x=.int (lo+i),fun i _=>n <= i⟩
theorem turn_list{P:Program}{w:World}{K:PySem.W.Frag}{tg:Expr}(a it:Addr):Turn P w K tg (Itl K a) [it] it (fun i h=>h.IsListIter it a i) where
 mem:=by simp
 obj:=fun i h st b hb=>by
  have e:b=it:=by simpa using hb
  subst e
  obtain ⟨o,e,c,d⟩:=st
  exact ⟨o,e,fun v z=>by rw [d] at z;cases z⟩
 keep:=fun i h h' st k=>st.at fun o e=>k it (by simp) o e
 item:=by
  intro X hP hw hK hc i pins s σ H E I hf st hg
  subst hP hw hK
  obtain ⟨xs,x,hq,hx⟩:=hg
  obtain ⟨its,rv,p,hz⟩:=I.list hq
  obtain ⟨u,hu,ru⟩:=rv.get hx
  obtain ⟨f0,f1,f2,f3,f4,f5⟩:=hf it (by simp)
  refine wpAny_pyNext_list_item st p.isList (x:=u) (by simpa using hu) fun h' st' sb=>?_
  have I1:Inv X pins σ H { s with heap:=h' }:=I.turned (t':=s.toks) (fun b o hb e=>(sb.2 b hb).trans e) f0 f1 f3 f4 f5
  obtain ⟨o,e,c,d⟩:=id st'
  exact ⟨u,rfl,go_of (s:={ s with heap:=h' }) e c d (by decide) ⟨x,H,I1,ru,⟨rfl,fun ys hy=>by rw [I.list_inj hy hq];exact hx⟩,st',fun b hb=>(hf b hb).1⟩⟩
 done:=by
  intro X hP hw hK hc i pins s σ H E I hf st hg
  subst hP hw hK
  obtain ⟨xs,hq,hx⟩:=hg
  obtain ⟨its,rv,p,hz⟩:=I.list hq
  obtain ⟨f0,f1,f2,f3,f4,f5⟩:=hf it (by simp)
  have hl:=rv.length
  exact wpAny_pyNext_list_end (I.ok.hd hc) st p.isList (by simp;omega) fun h' eb=>⟨rfl,I.turned (t':=s.toks) (fun b o hb e=>eb b o hb e) f0 f1 f3 f4 f5⟩
 self:=fun _ _ _ _ _ st h=>wpAny_pyIter_listiter st h
theorem turn_range{P:Program}{w:World}{K:PySem.W.Frag}{tg:Expr}(it:Addr)(lo:Int)(n:Nat):Turn P w K tg (Itr lo n) [it] it (fun i h=>IsRangeIter h it (lo+(i:Nat)*1) ((n:Int) - (i:Nat)) 1) where
 mem:=by simp
 obj:=fun i h st b hb=>by
  have e:b=it:=by simpa using hb
  subst e
  exact ⟨_,st,fun v z=>by
   have z':Data.fields _=Data.cell v:=z
   cases z'⟩
 keep:=fun i h h' st k=>k it (by simp) _ st
 item:=by
  intro X hP hw hK hc i pins s σ H E I hf st hg
  subst hP hw hK
  obtain ⟨f0,f1,f2,f3,f4,f5⟩:=hf it (by simp)
  have W:=Walks.range (prog:=X.prog) (w:=X.w) (I.ok.hd hc) it lo 1 n
  refine W.item i s _ _ hg st fun v h' tk hv st' kk=>?_
  obtain ⟨t,rfl⟩:=hv
  have I1:Inv X pins σ H { s with heap:=h',toks:=tk }:=I.turned (fun b o hb e=>kk b o (by simpa using hb) e) f0 f1 f3 f4 f5
  refine ⟨_,rfl,go_of (s:={ s with heap:=h',toks:=tk }) (n := "range_iterator") st' rfl rfl (by decide) ⟨.int (lo+i),H,I1,⟨t,?_⟩,⟨rfl,rfl⟩,st',fun b hb=>(hf b hb).1⟩⟩
  rw [Int.mul_one]
 done:=by
  intro X hP hw hK hc i pins s σ H E I hf st hg
  subst hP hw hK
  obtain ⟨f0,f1,f2,f3,f4,f5⟩:=hf it (by simp)
  exact wpAny_pyNext_range_end (I.ok.hd hc) st (by have:n <= i:=hg;omega) fun h' eb=>⟨rfl,I.turned (t':=s.toks) (fun b o hb e=>eb b o hb e) f0 f1 f3 f4 f5⟩
 self:=fun _ _ _ _ _ st h=>wpAny_pyIter_rangeiter st h
end L2
namespace L2
open PySem PySem.Spec PyProof.Rows
section
variable {X:Cx} {tg:Expr}
def iList(K:PySem.W.Frag)(tl:TE):TI:=fun σ H R=>tl σ H fun x H1=>∃ a,x=.ref a /\ (∃ xs,SqL K H1 a xs) /\ R (Itl K a) H1
theorem pi_list{l:Expr}{tl:TE}(hl:PE X l tl):PI X tg l (iList X.K tl):=by
 intro pins s σ H R I h
 refine thn (hl pins s σ H _ I h) fun v s1 ⟨x,H1,I1,r1,q1⟩=>?_
 obtain ⟨a,e,⟨xs,hq⟩,q⟩:=q1
 subst e
 cases r1
 obtain ⟨its,rv,p,hz⟩:=I1.list hq
 refine wpAny_pyIter_list p.isList ?_
 refine ⟨s1.heap.objs.size,[s1.heap.objs.size],_,_,H1,rfl,I1.kept (t':=s1.toks) fun b o e=>Heap.get?_push_of_some _ e,turn_list a _,⟨_,Heap.get?_push_size _ rfl,rfl,rfl⟩,fun b hb=>?_,q⟩
 have e:b=s1.heap.objs.size:=by simpa using hb
 subst e
 exact I1.fpOk (Nat.le_refl _) (I1.hok.fresh (Nat.le_refl _))
theorem range_it{pins:List (Addr × Obj)}{σ:St}{H:Hp}{s:Shared}{R:It->Hp->Prop}{E:Value->Shared->Prop}{lo hi:Int}{t u v:Tok}{tk:Nat}(I:Inv X pins σ H s)(h1:-(2 ^ 62) <= lo)(h2:lo < 2 ^ 62)(h3:-(2 ^ 62) <= hi)(h4:hi < 2 ^ 62)
  (q:R (Itr lo (hi - lo).toNat) H):wpAny (model X.prog X.w) X.A (pyIter (.ref s.heap.objs.size)) (PIE X pins σ tg R) E { s with heap:=s.heap.push { cls:=.type "range",data:=.fields #[.int lo t,.int hi u,.int 1 v] },toks:=tk }:=by
 refine wpAny_pyIter_range (IsRange.new ..) (small_one h1 h2 h3 h4) ?_
 have I1:Inv X pins σ H { s with heap:=s.heap.push { cls:=.type "range",data:=.fields #[.int lo t,.int hi u,.int 1 v] },toks:=tk }:=I.kept fun b o e=>Heap.get?_push_of_some _ e
 refine ⟨(s.heap.push { cls:=.type "range",data:=.fields #[.int lo t,.int hi u,.int 1 v] }).objs.size,[(s.heap.push { cls:=.type "range",data:=.fields #[.int lo t,.int hi u,.int 1 v] }).objs.size],_,_,H,rfl,
  I1.kept (t':=tk) fun b o e=>Heap.get?_push_of_some _ e,turn_range _ lo (hi - lo).toNat,?_,fun b hb=>?_,q⟩
 ·have e1:lo+((0:Nat):Int)*1=lo:=by simp
  have e2:(((hi - lo).toNat:Nat):Int) - ((0:Nat):Int)=Builtin.Range.rangeSize lo hi 1:=by rw [rangeSize_one];split<;>omega
  show IsRangeIter _ _ (lo+((0:Nat):Int)*1) ((((hi - lo).toNat:Nat):Int) - ((0:Nat):Int)) 1
  rw [e1,e2]
  exact Heap.get?_push_size _ rfl
 ·have e:b=(s.heap.push { cls:=.type "range",data:=.fields #[.int lo t,.int hi u,.int 1 v] }).objs.size:=by simpa using hb
  subst e
  exact I1.fpOk (Nat.le_refl _) (I1.hok.fresh (Nat.le_refl _))
def iRng1(ta:TA):TI:=fun σ H R=>ta σ H fun vs H1=>∃ j:Int,vs=[.int j] /\ -(2 ^ 62) <= j /\ j < 2 ^ 62 /\ R (Itr 0 j.toNat) H1
theorem pi_range1 {a:Expr} {ta:TA} {p pos:Pos} (hg:Gl X "range") (hm:X.mg "range"=none) (ha:PA X [a] ta) (hs:starEach [a] X.env=[(false,eval a X.env)]:=by rfl):PI X tg (.Call (.Name "range" p) [a] [] pos) (iRng1 ta):=by
 intro pins s σ H R I h
 refine Call_ (ld_blt I hg hm boot_range (PyProof.Rows.callWith_type1 (thn (ha pos pins s σ H _ I h) fun us s1 ⟨vs,H1,I1,r1,q1⟩=>?_) hs rfl))
 obtain ⟨j,e,q1,q2,q⟩:=q1
 subst e
 cases r1 with
 | cons r rr=>
  cases rr
  obtain ⟨t,rfl⟩:=r
  exact call_range_1 (range_it I1 (by omega) (by omega) q1 q2 (by simpa using q))
def tFor(wi:TI)(g:TG)(tb:TS):TS:=fun D σ H=>wi σ H fun J H1=>∃ W:Nat->Nat->St->Hp->Prop,(∃ m,W 0 m σ H1) /\ ∀ i m σ H,W i m σ H->
 (J.stop i H /\ D.nx σ H) \/ (J.go i H /\ ∃ N:St->Hp->Prop,(∀ σ' H',N σ' H'->∃ m',m' < m /\ W (i+1) m' σ' H') /\ ∀ x H',J.yld i H x H'->g x σ H' fun σ2 H2=>tb { D with nx:=N,ct:=N,bk:=D.nx } σ2 H2)
def pinsAt(fp:List Addr)(h:Heap):List (Addr × Obj):=fp.filterMap fun b=>(h.get? b).map fun o=>(b,o)
theorem mem_pinsAt{fp:List Addr}{h:Heap}{b:Addr}{o:Obj}(hb:b∈fp)(e:h.get? b=some o):(b,o)∈pinsAt fp h:=List.mem_filterMap.mpr ⟨b,hb,by rw [e];rfl⟩
theorem of_pinsAt{fp:List Addr}{h:Heap}{p:Addr × Obj}(hp:p∈pinsAt fp h):p.1∈fp /\ h.get? p.1=some p.2:=by
 obtain ⟨b,hb,e⟩:=List.mem_filterMap.mp hp
 cases q:h.get? b with
 | none=>rw [q] at e;cases e
 | some o=>
  rw [q] at e
  have e':(b,o)=p:=Option.some.inj e
  subst e'
  exact ⟨hb,q⟩
theorem Inv.pinned{pins:List (Addr × Obj)}{σ:St}{H:Hp}{s:Shared}{fp:List Addr}(I:Inv X pins σ H s)(hf:∀ b∈fp,FpOk X pins H b)(ho:∀ b∈fp,∃ o,s.heap.get? b=some o /\ ∀ v,o.data≠.cell v):Inv X (pins++pinsAt fp s.heap) σ H s:=
 I.pins_of fun p hp=>(List.mem_append.mp hp).elim (fun z=>I.pin p (List.mem_append_right _ z)) fun z=>by
  obtain ⟨hb,e⟩:=of_pinsAt z
  obtain ⟨f0,f1,f2,_⟩:=hf p.1 hb
  obtain ⟨o,e',d⟩:=ho p.1 hb
  rw [e] at e';cases e'
  exact ⟨e,f0,f1,f2,d⟩
theorem Inv.unpinned{pins pl:List (Addr × Obj)}{σ:St}{H:Hp}{s:Shared}(I:Inv X (pins++pl) σ H s):Inv X pins σ H s:=I.pins_of fun p hp=>I.pin p (List.mem_append_right _ (List.mem_append_left _ hp))
theorem ps_for{iter:Expr}{body:List Stmt}{wi:TI}{g:TG}{tb:TS}{pos:Pos}(hp:PassesOwn (model X.prog X.w) X.A X.env X.xe)(hc:X.calm=true)(hi:PI X tg iter wi)(hg:PG X tg g)(hb:PSs X body tb)
  (hs:∀ x,foldedSetIterable iter X.env x=pure x:=by intro _;rfl):PS X (.For tg iter body [] pos) (tFor wi g tb):=by
 intro pins s σ H D I h
 refine wpAny_For (thn (hi pins s σ H _ I h) fun v s1 h1=>thn h1 fun itv s2 h2=>?_) hs
 obtain ⟨it,fp,tn,J,H2,e,I2,T,st2,f2,W,⟨m0,w0⟩,turn⟩:=h2
 subst e
 have stat:∀ {H':Hp},(∀ b∈fp,H' b=none)->∀ b∈fp,FpOk X pins H' b:=fun hn b hb=>⟨hn b hb,(f2 b hb).2⟩
 refine codeAny_forLoop_any (fun n s'=>∃ i σ' H',Inv X pins σ' H' s' /\ tn i s'.heap /\ (∀ b∈fp,H' b=none) /\ W i n σ' H') ?_ m0 ⟨0,σ,H2,I2,st2,fun b hb=>(f2 b hb).1,w0⟩
 rintro n s3 ⟨i,σ3,H3,I3,st3,fr3,w3⟩
 rcases turn i n σ3 H3 w3 with ⟨stop,qn⟩ | ⟨go,N,hN,step⟩
 ·refine wpAny_passesOwn hp (thn (T.done X rfl rfl rfl hc i pins s3 σ3 H3 X.xe I3 (stat fr3) st3 stop) fun r s4 ⟨hr,I4⟩=>?_)
  subst hr
  exact wpAny_execs_nil ⟨σ3,H3,I4,qn⟩
 ·refine wpAny_passesOwn hp (thn (T.item X rfl rfl rfl hc i pins s3 σ3 H3 X.xe I3 (stat fr3) st3 go) fun r s4 ⟨u,hr,h4⟩=>?_)
  subst hr
  refine wpAny_passesOwn hp (thn h4 fun _ s5 ⟨x,H5,I5,r5,y5,st5,fr5⟩=>?_)
  have I5':=I5.pinned (stat fr5) (T.obj _ _ st5)
  refine wpAny_passesOwn hp (thn (hg _ s5 σ3 H5 x u _ I5' r5 (step x H5 y5)) fun _ s6 ⟨σ6,H6,I6,q6⟩=>?_)
  refine wpAny_passesOwn hp (thn (hb _ s6 σ6 H6 _ I6 q6) fun f s7 q7=>?_)
  have again:∀ {σ7:St} {H7:Hp},Inv X (pins++pinsAt fp s5.heap) σ7 H7 s7->N σ7 H7->∃ m,m < n /\ ∃ i σ' H',Inv X pins σ' H' s7 /\ tn i s7.heap /\ (∀ b∈fp,H' b=none) /\ W i m σ' H':=fun {σ7 H7} I7 n7=>by
   obtain ⟨m',hm,w7⟩:=hN σ7 H7 n7
   refine ⟨m',hm,i+1,σ7,H7,I7.unpinned,T.keep _ _ _ st5 fun b hb o e=>(I7.pin (b,o) (List.mem_append_right _ (List.mem_append_right _ (mem_pinsAt hb e)))).1,fun b hb=>?_,w7⟩
   obtain ⟨o,e,d⟩:=T.obj _ _ st5 b hb
   exact (I7.pin (b,o) (List.mem_append_right _ (List.mem_append_right _ (mem_pinsAt hb e)))).2.1
  cases f with
  | next=>obtain ⟨σ7,H7,I7,n7⟩:=q7;exact again I7 n7
  | cont=>obtain ⟨σ7,H7,I7,n7⟩:=q7;exact again I7 n7
  | brk=>obtain ⟨σ7,H7,I7,q7⟩:=q7;exact ⟨σ7,H7,I7.unpinned,q7⟩
  | ret v=>obtain ⟨x7,σ7,H7,I7,r7,q7⟩:=q7;exact ⟨x7,σ7,H7,I7.unpinned,r7,q7⟩
end
theorem for_list{K:PySem.W.Frag}{a:Addr}{xs:List V}{g:TG}{tb:TS}{D:Ends}{σ:St}{H:Hp}(Pv:Nat->St->Hp->Prop)(h0:Pv 0 σ H)(hl:∀ i σ H,i <= xs.length->Pv i σ H->SqL K H a xs)
  (hs:∀ i x σ H,xs[i]?=some x->Pv i σ H->g x σ H fun σ2 H2=>tb { D with nx:=Pv (i+1),ct:=Pv (i+1),bk:=D.nx } σ2 H2) (hd:∀ σ H,Pv xs.length σ H->D.nx σ H):
  ∃ W:Nat->Nat->St->Hp->Prop,(∃ m,W 0 m σ H) /\ ∀ i m σ H,W i m σ H->
   ((Itl K a).stop i H /\ D.nx σ H) \/ ((Itl K a).go i H /\ ∃ N:St->Hp->Prop,(∀ σ' H',N σ' H'->∃ m',m' < m /\ W (i+1) m' σ' H') /\ ∀ x H',(Itl K a).yld i H x H'->g x σ H' fun σ2 H2=>tb { D with nx:=N,ct:=N,bk:=D.nx } σ2 H2):=by
 refine ⟨fun i m σ H=>m=xs.length - i /\ i <= xs.length /\ Pv i σ H,⟨xs.length,by simp,Nat.zero_le _,h0⟩,?_⟩
 rintro i m σ H ⟨rfl,hi,p⟩
 have q:=hl i σ H hi p
 by_cases hlt:i < xs.length
 ·refine .inr ⟨⟨xs,xs[i],q,by simp [hlt]⟩,Pv (i+1),fun σ' H' p'=>⟨xs.length - (i+1),by omega,rfl,hlt,p'⟩,fun x H' y=>?_⟩
  obtain ⟨e,y⟩:=y
  subst e
  exact hs i x σ _ (y xs q) p
 ·have e:i=xs.length:=by omega
  subst e
  exact .inl ⟨⟨xs,q,Nat.le_refl _⟩,hd σ H p⟩
theorem for_range{lo:Int}{n:Nat}{g:TG}{tb:TS}{D:Ends}{σ:St}{H:Hp}(Pv:Nat->St->Hp->Prop)(h0:Pv 0 σ H)
  (hs:∀ i σ H,i < n->Pv i σ H->g (.int (lo+i)) σ H fun σ2 H2=>tb { D with nx:=Pv (i+1),ct:=Pv (i+1),bk:=D.nx } σ2 H2) (hd:∀ σ H,Pv n σ H->D.nx σ H):
  ∃ W:Nat->Nat->St->Hp->Prop,(∃ m,W 0 m σ H) /\ ∀ i m σ H,W i m σ H->
   ((Itr lo n).stop i H /\ D.nx σ H) \/ ((Itr lo n).go i H /\ ∃ N:St->Hp->Prop,(∀ σ' H',N σ' H'->∃ m',m' < m /\ W (i+1) m' σ' H') /\ ∀ x H',(Itr lo n).yld i H x H'->g x σ H' fun σ2 H2=>tb { D with nx:=N,ct:=N,bk:=D.nx } σ2 H2):=by
 refine ⟨fun i m σ H=>m=n - i /\ i <= n /\ Pv i σ H,⟨n,by simp,Nat.zero_le _,h0⟩,?_⟩
 rintro i m σ H ⟨rfl,hi,p⟩
 by_cases hlt:i < n
 ·refine .inr ⟨hlt,Pv (i+1),fun σ' H' p'=>⟨n - (i+1),by omega,rfl,hlt,p'⟩,fun x H' y=>?_⟩
  obtain ⟨e,y⟩:=y
  subst e y
  exact hs i σ _ hlt p
 ·have e:i=n:=by omega
  subst e
  exact .inl ⟨Nat.le_refl _,hd σ H p⟩
end L2
namespace L2
open PySem PySem.Spec PyProof.Rows
abbrev R2:=V->V->Hp->VK->Prop
def OpR(X:Cx)(f:Value->Value->Sem Value)(r:R2):Prop:=
 ∀ (pins:List (Addr × Obj)) (s:Shared) (σ:St) (H:Hp) (x y:V) (v u:Value) (Q:VK),Inv X pins σ H s->RelV x v->RelV y u->r x y H Q->
  wpAny (model X.prog X.w) X.A (f v u) (EP X pins σ Q) X.xe s
def UnR(X:Cx)(f:Value->Sem Value)(r:V->Hp->VK->Prop):Prop:=
 ∀ (pins:List (Addr × Obj)) (s:Shared) (σ:St) (H:Hp) (x:V) (v:Value) (Q:VK),Inv X pins σ H s->RelV x v->r x H Q->
  wpAny (model X.prog X.w) X.A (f v) (EP X pins σ Q) X.xe s
def CallR(X:Cx)(f:Value)(r:List V->Hp->VK->Prop):Prop:=
 ∀ (pins:List (Addr × Obj)) (s:Shared) (σ:St) (H:Hp) (xs:List V) (us:List Value) (Q:VK),Inv X pins σ H s->Vals xs us->r xs H Q->
  wpAny (model X.prog X.w) X.A (call f us) (EP X pins σ Q) X.xe s
def TruR(X:Cx)(r:V->Hp->(Bool->Hp->Prop)->Prop):Prop:=
 ∀ (pins:List (Addr × Obj)) (s:Shared) (σ:St) (H:Hp) (x:V) (v:Value) (Q:Bool->Hp->Prop),Inv X pins σ H s->RelV x v->r x H Q->
  wpAny (model X.prog X.w) X.A (truthy v) (TP X pins σ Q) X.xe s
def tOp(r:R2)(ta tb:TE):TE:=fun σ H Q=>ta σ H fun x H1=>tb σ H1 fun y H2=>r x y H2 Q
def tUn(r:V->Hp->VK->Prop)(ta:TE):TE:=fun σ H Q=>ta σ H fun x H1=>r x H1 Q
def rI(C:Int->Int->Prop)(g:Int->Int->V):R2:=fun x y H Q=>∃ i j,x=.int i /\ y=.int j /\ C i j /\ Q (g i j) H
def rI0(g:Int->Int->V):R2:=fun x y H Q=>∃ i j,x=.int i /\ y=.int j /\ Q (g i j) H
def rU(g:Int->V):V->Hp->VK->Prop:=fun x H Q=>∃ i,x=.int i /\ Q (g i) H
section
variable {X:Cx} {a b c:Expr} {ta tb tc:TE} {pos:Pos}
theorem binT(ha:PE X a ta)(hb:PE X b tb){pins:List (Addr × Obj)}{s:Shared}{σ:St}{H:Hp}{R:V->V->Hp->Prop}(I:Inv X pins σ H s)
  (h:ta σ H fun x H1=>tb σ H1 fun y H2=>R x y H2) {Q:Value->Shared->Prop} {f:Value->Value->Sem Value}
  (hf:∀ v u s2 x y H2,Inv X pins σ H2 s2->RelV x v->RelV y u->R x y H2->wpAny (model X.prog X.w) X.A (f v u) Q X.xe s2):
  wpAny (model X.prog X.w) X.A (eval a X.env) (fun v s₁=>wpAny (model X.prog X.w) X.A (eval b X.env) (fun u s₂=>wpAny (model X.prog X.w) X.A (f v u) Q X.xe s₂) X.xe s₁) X.xe s:=by
 refine thn (ha pins s σ H _ I h) fun v s1 ⟨x,H1,I1,r1,q1⟩=>?_
 refine thn (hb pins s1 σ H1 _ I1 q1) fun u s2 ⟨y,H2,I2,r2,q2⟩=>?_
 exact hf v u s2 x y H2 I2 r1 r2 q2
theorem pe_op{op:Operator}{r:R2}(ho:OpR X (binaryOp op) r)(ha:PE X a ta)(hb:PE X b tb):PE X (.BinOp a op b pos) (tOp r ta tb):=by
 intro pins s σ H Q I h
 exact wpAny_BinOp (binT ha hb I h fun v u s2 x y H2 I2 rx ry q=>ho pins s2 σ H2 x y v u Q I2 rx ry q)
theorem pe_un{op:UnaryOp}{r:V->Hp->VK->Prop}(ho:UnR X (unaryOp op) r)(ha:PE X a ta):PE X (.UnaryOp op a pos) (tUn r ta):=by
 intro pins s σ H Q I h
 exact UnaryOp_ (thn (ha pins s σ H _ I h) fun v s1 ⟨x,H1,I1,r1,q1⟩=>ho pins s1 σ H1 x v Q I1 r1 q1)
theorem opI{f:Value->Value->Sem Value}{C:Int->Int->Prop}{g:Int->Int->Int}
  (rule:∀ (i j:Int) (t u:Tok) (s:Shared) (Q:Value->Shared->Prop) (E:Value->Shared->Prop),C i j->Q (.int (g i j) s.toks) { s with toks:=s.toks+1 }->wpAny (model X.prog X.w) X.A (f (.int i t) (.int j u)) Q E s):
  OpR X f (rI C fun i j=>.int (g i j)):=by
 intro pins s σ H x y v u Q I rx ry h
 obtain ⟨i,j,rfl,rfl,hc,q⟩:=h
 obtain ⟨t,rfl⟩:=rx
 obtain ⟨t',rfl⟩:=ry
 exact rule i j t t' s _ _ hc ⟨.int (g i j),H,I.tok _,⟨_,rfl⟩,q⟩
theorem opI0{f:Value->Value->Sem Value}{g:Int->Int->Int}
  (rule:∀ (i j:Int) (t u:Tok) (s:Shared) (Q:Value->Shared->Prop) (E:Value->Shared->Prop),Q (.int (g i j) s.toks) { s with toks:=s.toks+1 }->wpAny (model X.prog X.w) X.A (f (.int i t) (.int j u)) Q E s):
  OpR X f (rI0 fun i j=>.int (g i j)):=by
 intro pins s σ H x y v u Q I rx ry h
 obtain ⟨i,j,rfl,rfl,q⟩:=h
 obtain ⟨t,rfl⟩:=rx
 obtain ⟨t',rfl⟩:=ry
 exact rule i j t t' s _ _ ⟨.int (g i j),H,I.tok _,⟨_,rfl⟩,q⟩
theorem opB0{f:Value->Value->Sem Value}{g:Int->Int->Bool}
  (rule:∀ (i j:Int) (t u:Tok) (s:Shared) (Q:Value->Shared->Prop) (E:Value->Shared->Prop),Q (.bool (g i j)) s->wpAny (model X.prog X.w) X.A (f (.int i t) (.int j u)) Q E s):
  OpR X f (rI0 fun i j=>.bl (g i j)):=by
 intro pins s σ H x y v u Q I rx ry h
 obtain ⟨i,j,rfl,rfl,q⟩:=h
 obtain ⟨t,rfl⟩:=rx
 obtain ⟨t',rfl⟩:=ry
 exact rule i j t t' s _ _ ⟨.bl (g i j),H,I,rfl,q⟩
def CDiv(i j:Int):Prop:=0 < j /\ j < 1073741824
def CPow(i j:Int):Prop:=0 <= j /\ j <= 1000000 /\ i.natAbs < 2 ^ 64
def CMul(i j:Int):Prop:=(-(2 ^ 64) < i /\ i < 2 ^ 64) \/ (-(2 ^ 64) < j /\ j < 2 ^ 64)
theorem CMul.ok{i j:Int}(h:CMul i j):IntMulOk i j:=by
 rcases h with ⟨h1,h2⟩ | ⟨h1,h2⟩
 ·exact .of_left (intBits_le_64 h1 h2)
 ·exact .of_right (intBits_le_64 h1 h2)
theorem op_add:OpR X (binaryOp .Add) (rI0 fun i j=>.int (i+j)):=opI0 fun _ _ _ _ _ _ _ q=>add_int q
theorem op_sub:OpR X (binaryOp .Sub) (rI0 fun i j=>.int (i - j)):=opI0 fun _ _ _ _ _ _ _ q=>sub_int q
theorem op_mul:OpR X (binaryOp .Mult) (rI CMul fun i j=>.int (i*j)):=opI fun _ _ _ _ _ _ _ hc q=>mul_int q hc.ok
theorem op_fdiv:OpR X (binaryOp .FloorDiv) (rI CDiv fun i j=>.int (i / j)):=opI fun i j _ _ _ _ _ hc q=>by
 have h1:(0:Int) < j:=hc.1
 have h2:j < 1073741824:=hc.2
 exact floordiv_int (by omega) (by rw [Int.fdiv_eq_ediv_of_nonneg i (by omega)];exact q) (.inl (PyProof.noPylong_small (by omega)))
theorem op_mod:OpR X (binaryOp .Mod) (rI (fun _ j=>0 < j) fun i j=>.int (i % j)):=opI fun i j _ _ _ _ _ hc q=>by
 have h1:(0:Int) < j:=hc
 exact mod_int' (by omega) (by rw [Int.fmod_eq_emod_of_nonneg i (by omega)];exact q)
theorem op_pow:OpR X (binaryOp .Pow) (rI CPow fun i j=>.int (i ^ j.toNat)):=opI fun _ _ _ _ _ _ _ hc q=>pow_int_small hc.1 hc.2.1 hc.2.2 q
theorem unI{f:Value->Sem Value}{g:Int->Int}
  (rule:∀ (i:Int) (t:Tok) (s:Shared) (Q:Value->Shared->Prop) (E:Value->Shared->Prop),Q (.int (g i) s.toks) { s with toks:=s.toks+1 }->wpAny (model X.prog X.w) X.A (f (.int i t)) Q E s):
  UnR X f (rU fun i=>.int (g i)):=by
 intro pins s σ H x v Q I rx h
 obtain ⟨i,rfl,q⟩:=h
 obtain ⟨t,rfl⟩:=rx
 exact rule i t s _ _ ⟨.int (g i),H,I.tok _,⟨_,rfl⟩,q⟩
theorem un_neg:UnR X (unaryOp .USub) (rU fun i=>.int (-i)):=unI fun _ _ _ _ _ q=>neg_int q
end
def scal:V->V->Bool
 | .non,.non=>true | .non,.int _=>true | .int _,.non=>true | .non,.bl _=>true | .bl _,.non=>true | .non,.str _=>true | .str _,.non=>true
 | .int _,.int _=>true | .bl _,.bl _=>true | .str _,.str _=>true | .byt _,.byt _=>true
 | .int _,.str _=>true | .str _,.int _=>true | .bl _,.str _=>true | .str _,.bl _=>true
 | _,_=>false
def rEq:R2:=fun x y H Q=>scal x y=true /\ Q (.bl (decide (x=y))) H
def rNe:R2:=fun x y H Q=>scal x y=true /\ Q (.bl (!decide (x=y))) H
theorem dec_int{i j:Int}:decide (V.int i=V.int j)=(i==j):=by
 rw [Bool.eq_iff_iff]
 simp
theorem dec_bl{i j:Bool}:decide (V.bl i=V.bl j)=(i==j):=by
 rw [Bool.eq_iff_iff]
 simp
theorem dec_str{i j:Str}:decide (V.str i=V.str j)=(i==j):=by
 rw [Bool.eq_iff_iff]
 simp
theorem dec_byt{i j:Array UInt8}:decide (V.byt i=V.byt j)=(i.toList==j.toList):=by
 rw [Bool.eq_iff_iff]
 cases i
 cases j
 simp
section
variable {X:Cx} {a b c:Expr} {ta tb tc:TE} {pos:Pos}
theorem fin_bl{pins:List (Addr × Obj)}{σ:St}{H:Hp}{s:Shared}{Q:VK}{k k':Bool}(I:Inv X pins σ H s)(q:Q (.bl k) H)(e:k=k'):EP X pins σ Q (.bool k') s:=by
 subst e
 exact ⟨.bl k,H,I,rfl,q⟩
theorem op_eq:OpR X (compareOp .Eq) rEq:=by
 intro pins s σ H x y v u Q I rx ry h
 obtain ⟨hs,q⟩:=h
 cases x with
 | non=>
  cases rx
  cases y with
  | non=>cases ry;exact PySem.EqNone.eq_none_none (fin_bl I q (by simp))
  | bl j=>cases ry;exact PySem.EqNone.eq_none_bool (fin_bl I q (by simp))
  | int j=>obtain ⟨t',rfl⟩:=ry;exact PySem.EqNone.eq_none_int (fin_bl I q (by simp))
  | str j=>obtain ⟨t',rfl⟩:=ry;exact PySem.EqNone.eq_none_str (fin_bl I q (by simp))
  | _=>exact absurd (show false=true from hs) Bool.false_ne_true
 | bl i=>
  cases rx
  cases y with
  | non=>cases ry;exact PySem.EqNone.eq_bool_none (fin_bl I q (by simp))
  | bl j=>cases ry;exact eq_bool (fin_bl I q dec_bl)
  | str j=>obtain ⟨t',rfl⟩:=ry;exact PySem.EqMixed.eq_bool_str (fin_bl I q (by simp))
  | _=>exact absurd (show false=true from hs) Bool.false_ne_true
 | int i=>
  obtain ⟨t,rfl⟩:=rx
  cases y with
  | non=>cases ry;exact PySem.EqNone.eq_int_none (fin_bl I q (by simp))
  | int j=>obtain ⟨t',rfl⟩:=ry;exact eq_int (fin_bl I q dec_int)
  | str j=>obtain ⟨t',rfl⟩:=ry;exact PySem.EqMixed.eq_int_str (fin_bl I q (by simp))
  | _=>exact absurd (show false=true from hs) Bool.false_ne_true
 | str i=>
  obtain ⟨t,rfl⟩:=rx
  cases y with
  | non=>cases ry;exact PySem.EqNone.eq_str_none (fin_bl I q (by simp))
  | bl j=>cases ry;exact PySem.EqMixed.eq_str_bool (fin_bl I q (by simp))
  | int j=>obtain ⟨t',rfl⟩:=ry;exact PySem.EqMixed.eq_str_int (fin_bl I q (by simp))
  | str j=>obtain ⟨t',rfl⟩:=ry;exact eq_str (fin_bl I q dec_str)
  | _=>exact absurd (show false=true from hs) Bool.false_ne_true
 | byt i=>
  obtain ⟨t,rfl⟩:=rx
  cases y with
  | byt j=>obtain ⟨t',rfl⟩:=ry;exact PySem.W.eq_bytes (fin_bl I q dec_byt)
  | _=>exact absurd (show false=true from hs) Bool.false_ne_true
 | _=>cases y<;>exact absurd (show false=true from hs) Bool.false_ne_true
theorem op_ne:OpR X (compareOp .NotEq) rNe:=by
 intro pins s σ H x y v u Q I rx ry h
 obtain ⟨hs,q⟩:=h
 cases x with
 | non=>
  cases rx
  cases y with
  | non=>cases ry;exact PySem.EqNone.ne_none_none (fin_bl I q (by simp))
  | bl j=>cases ry;exact PySem.EqNone.ne_none_bool (fin_bl I q (by simp))
  | int j=>obtain ⟨t',rfl⟩:=ry;exact PySem.EqNone.ne_none_int (fin_bl I q (by simp))
  | str j=>obtain ⟨t',rfl⟩:=ry;exact PySem.EqNone.ne_none_str (fin_bl I q (by simp))
  | _=>exact absurd (show false=true from hs) Bool.false_ne_true
 | bl i=>
  cases rx
  cases y with
  | non=>cases ry;exact PySem.EqNone.ne_bool_none (fin_bl I q (by simp))
  | bl j=>cases ry;exact ne_bool (fin_bl I q (congrArg not dec_bl))
  | str j=>obtain ⟨t',rfl⟩:=ry;exact PySem.EqMixed.ne_bool_str (fin_bl I q (by simp))
  | _=>exact absurd (show false=true from hs) Bool.false_ne_true
 | int i=>
  obtain ⟨t,rfl⟩:=rx
  cases y with
  | non=>cases ry;exact PySem.EqNone.ne_int_none (fin_bl I q (by simp))
  | int j=>obtain ⟨t',rfl⟩:=ry;exact ne_int (fin_bl I q (congrArg not dec_int))
  | str j=>obtain ⟨t',rfl⟩:=ry;exact PySem.EqMixed.ne_int_str (fin_bl I q (by simp))
  | _=>exact absurd (show false=true from hs) Bool.false_ne_true
 | str i=>
  obtain ⟨t,rfl⟩:=rx
  cases y with
  | non=>cases ry;exact PySem.EqNone.ne_str_none (fin_bl I q (by simp))
  | bl j=>cases ry;exact PySem.EqMixed.ne_str_bool (fin_bl I q (by simp))
  | int j=>obtain ⟨t',rfl⟩:=ry;exact PySem.EqMixed.ne_str_int (fin_bl I q (by simp))
  | str j=>obtain ⟨t',rfl⟩:=ry;exact ne_str (fin_bl I q (congrArg not dec_str))
  | _=>exact absurd (show false=true from hs) Bool.false_ne_true
 | byt i=>
  obtain ⟨t,rfl⟩:=rx
  cases y with
  | byt j=>obtain ⟨t',rfl⟩:=ry;exact PySem.W.ne_bytes (fin_bl I q (congrArg not dec_byt))
  | _=>exact absurd (show false=true from hs) Bool.false_ne_true
 | _=>cases y<;>exact absurd (show false=true from hs) Bool.false_ne_true
theorem op_lt:OpR X (compareOp .Lt) (rI0 fun i j=>.bl (decide (i < j))):=opB0 fun _ _ _ _ _ _ _ q=>lt_int q
theorem op_le:OpR X (compareOp .LtE) (rI0 fun i j=>.bl (decide (i <= j))):=opB0 fun _ _ _ _ _ _ _ q=>le_int q
theorem op_gt:OpR X (compareOp .Gt) (rI0 fun i j=>.bl (decide (j < i))):=opB0 fun _ _ _ _ _ _ _ q=>gt_int q
theorem op_ge:OpR X (compareOp .GtE) (rI0 fun i j=>.bl (decide (j <= i))):=opB0 fun _ _ _ _ _ _ _ q=>ge_int q
theorem OpR.or{f:Value->Value->Sem Value}{r r':R2}(h:OpR X f r)(h':OpR X f r'):OpR X f (fun x y H Q=>r x y H Q \/ r' x y H Q):=by
 intro pins s σ H x y v u Q I rx ry q
 rcases q with q | q
 ·exact h pins s σ H x y v u Q I rx ry q
 ·exact h' pins s σ H x y v u Q I rx ry q
theorem nomark(b:Expr){op:CmpOp}(h:op≠.In:=by decide)(h2:op≠.NotIn:=by decide):behindInMarks op b=false:=by
 have e1:(op==CmpOp.In)=false:=by cases op<;>first | rfl | exact absurd rfl h
 have e2:(op==CmpOp.NotIn)=false:=by cases op<;>first | rfl | exact absurd rfl h2
 cases b<;>simp [behindInMarks,e1,e2]
theorem pe_cmpR{op:CmpOp}{r:R2}(ho:OpR X (compareOp op) r)(ha:PE X a ta)(hb:PE X b tb)(hm:behindInMarks op b=false):PE X (.Compare a [op] [b] pos) (tOp r ta tb):=by
 intro pins s σ H Q I h
 exact wpAny_Compare1 (binT ha hb I h fun v u s2 x y H2 I2 rx ry q=>ho pins s2 σ H2 x y v u Q I2 rx ry q) hm
def tTest(t:TE):TT:=fun σ H Q=>t σ H fun x H'=>∃ k,x=.bl k /\ Q k H'
theorem pt_cmpR{op:CmpOp}{r:R2}(ho:OpR X (compareOp op) r)(ha:PE X a ta)(hb:PE X b tb)(hm:behindInMarks op b=false):PT X (.Compare a [op] [b] pos) (tTest (tOp r ta tb)):=by
 intro pins s σ H Q I h
 refine wpAny_isTrue_Compare1 (thn (ha pins s σ H _ I h) fun v s1 ⟨x,H1,I1,r1,q1⟩=>thn (hb pins s1 σ H1 _ I1 q1) fun u s2 ⟨y,H2,I2,r2,q2⟩=>
  thn (ho pins s2 σ H2 x y v u _ I2 r1 r2 q2) fun c s3 ⟨z,H3,I3,r3,k,e,q3⟩=>?_) hm
 subst e
 cases r3
 exact wpAny_truthy_bool ⟨H3,I3,q3⟩
def TruV(K:PySem.W.Frag)(x:V)(H:Hp)(k:Bool):Prop:=
 match x with
 | .non=>k=false
 | .bl b=>k=b
 | .int i=>k=(i != 0)
 | .str y=>y.length <= sizeLine /\ k=((y.length:Int) != 0)
 | .byt y=>y.size <= sizeLine /\ k=((y.size:Int) != 0)
 | .ref p=>(∃ xs,SqL K H p xs /\ k=!xs.isEmpty) \/ (∃ xs,SqT K H p xs /\ k=!xs.isEmpty) \/ ∃ kvs,H p=some (.dK kvs) /\ k=!kvs.isEmpty
 | _=>False
theorem isEmpty_kv{κ:Type}{kvs:List (κ × V)}{vs:List (κ × Value)}(r:KV kvs vs):(!vs.isEmpty)=!kvs.isEmpty:=by
 cases r<;>rfl
theorem isEmpty_of{xs:List V}{its:List Value}(r:Vals xs its):(!its.toArray.isEmpty)=!xs.isEmpty:=by
 cases r<;>simp
theorem line63:(sizeLine:Nat) < 2 ^ 63:=by rw [sizeLine_eq];decide
theorem tru_ok:TruR X (fun x H Q=>∃ k,TruV X.K x H k /\ Q k H):=by
 intro pins s σ H x v Q I rx h
 obtain ⟨k,e,q⟩:=h
 have hl:=line63
 have hs:sizeLine=16777216:=sizeLine_eq
 cases x with
 | non=>
  cases rx
  have e':k=false:=e
  subst e'
  exact truthy_none ⟨H,I,q⟩
 | bl b=>
  cases rx
  have e':k=b:=e
  subst e'
  exact wpAny_truthy_bool ⟨H,I,q⟩
 | int i=>
  obtain ⟨t,rfl⟩:=rx
  have e':k=(i != 0):=e
  subst e'
  exact PySem.P.truthy_int ⟨H,I,q⟩
 | str y=>
  obtain ⟨t,rfl⟩:=rx
  obtain ⟨hy,e'⟩:y.length <= sizeLine /\ k=((y.length:Int) != 0):=e
  subst e'
  exact PySem.P.truthy_str (by omega) ⟨H,I.tok _,q⟩
 | byt y=>
  obtain ⟨t,rfl⟩:=rx
  obtain ⟨hy,e'⟩:y.size <= sizeLine /\ k=((y.size:Int) != 0):=e
  subst e'
  exact PySem.W.truthy_bytes (by omega) ⟨H,I.tok _,q⟩
 | ref p=>
  cases rx
  have e':(∃ xs,SqL X.K H p xs /\ k=!xs.isEmpty) \/ (∃ xs,SqT X.K H p xs /\ k=!xs.isEmpty) \/ ∃ kvs,H p=some (.dK kvs) /\ k=!kvs.isEmpty:=e
  rcases e' with ⟨xs,hx,e'⟩ | ⟨xs,hx,e'⟩ | ⟨kvs,hx,e'⟩
  ·subst e'
   obtain ⟨its,r,pl,hz⟩:=I.list hx
   have hlen:=r.length
   exact wpAny_truthy_list pl.isList (by simp only [List.size_toArray];omega) ⟨H,I.tok _,by rw [isEmpty_of r];exact q⟩
  ·subst e'
   obtain ⟨its,r,pl,hz⟩:=I.tuple hx
   have hlen:=r.length
   exact truthy_tuple pl (by simp only [List.size_toArray];omega) ⟨H,I.tok _,by rw [isEmpty_of r];exact q⟩
  ·subst e'
   obtain ⟨hz,hS,vs,r,m⟩:kvs.length <= sizeLine /\ (p==sysModules)=false /\ ∃ vs,KV kvs vs /\ s.heap.DictOf (mixKind X.prog X.w) p vs:=I.hok p _ hx
   have hlen:kvs.length=vs.length:=Paired.length r
   exact wpAny_truthy_dict hS m (by omega) ⟨H,I.tok _,by rw [isEmpty_kv r];exact q⟩
 | _=>exact (show False from e).elim
theorem pt_truth(ha:PE X a ta)(he:∀ whole,isTrue a X.env whole=(do let v <- whole;standAt a.pos;holding [v] (truthy v))):
  PT X a (fun σ H Q=>ta σ H fun x H'=>∃ k,TruV X.K x H' k /\ Q k H'):=by
 intro pins s σ H Q I h
 exact isTrue_plain (thn (ha pins s σ H _ I h) fun v s1 ⟨x,H1,I1,r1,q1⟩=>tru_ok pins s1 σ H1 x v Q I1 r1 q1) (he _)
theorem op_add_str:OpR X (binaryOp .Add) (fun x y H Q=>∃ i j,x=.str i /\ y=.str j /\ i.length+j.length <= sizeLine /\ Q (.str (i++j)) H):=by
 intro pins s σ H x y v u Q I rx ry h
 obtain ⟨i,j,rfl,rfl,hz,q⟩:=h
 obtain ⟨t,rfl⟩:=rx
 obtain ⟨t',rfl⟩:=ry
 exact add_str (fun t' tk=>⟨.str (i++j),H,I.tok _,⟨_,rfl⟩,q⟩) hz
theorem vals1{x:V}{us:List Value}(r:Vals [x] us):∃ u,us=[u] /\ RelV x u:=by
 cases r with
 | cons r1 r2=>cases r2;exact ⟨_,rfl,r1⟩
theorem vals2{x y:V}{us:List Value}(r:Vals [x,y] us):∃ u w',us=[u,w'] /\ RelV x u /\ RelV y w':=by
 cases r with
 | cons r1 r2=>
  cases r2 with
  | cons r3 r4=>cases r4;exact ⟨_,_,rfl,r1,r3⟩
theorem call_max2(hc:X.calm=true):CallR X (.builtin "max") (fun xs H Q=>∃ i j,xs=[.int i,.int j] /\ Q (.int (if j > i then j else i)) H):=by
 intro pins s σ H xs us Q I r h
 obtain ⟨i,j,rfl,q⟩:=h
 obtain ⟨u,w',rfl,⟨t,rfl⟩,⟨t',rfl⟩⟩:=vals2 r
 refine max_two_ints (I.ok.hd hc) fun h' tk k=>⟨_,H,I.kept k,?_,q⟩
 by_cases hj:j > i
 ·rw [if_pos hj,if_pos hj];exact ⟨_,rfl⟩
 ·rw [if_neg hj,if_neg hj];exact ⟨_,rfl⟩
theorem call_min2(hc:X.calm=true):CallR X (.builtin "min") (fun xs H Q=>∃ i j,xs=[.int i,.int j] /\ Q (.int (if j < i then j else i)) H):=by
 intro pins s σ H xs us Q I r h
 obtain ⟨i,j,rfl,q⟩:=h
 obtain ⟨u,w',rfl,⟨t,rfl⟩,⟨t',rfl⟩⟩:=vals2 r
 refine min_two_ints (I.ok.hd hc) fun h' tk k=>⟨_,H,I.kept k,?_,q⟩
 by_cases hj:j < i
 ·rw [if_pos hj,if_pos hj];exact ⟨_,rfl⟩
 ·rw [if_neg hj,if_neg hj];exact ⟨_,rfl⟩
theorem call_int1:CallR X (.type "int") (fun xs H Q=>(∃ i,xs=[.int i] /\ Q (.int i) H) \/ ∃ k,xs=[.bl k] /\ Q (.int (if k then 1 else 0)) H):=by
 intro pins s σ H xs us Q I r h
 rcases h with ⟨i,rfl,q⟩ | ⟨k,rfl,q⟩
 ·obtain ⟨u,rfl,t,rfl⟩:=vals1 r
  exact call_int_int ⟨.int i,H,I,⟨_,rfl⟩,q⟩
 ·obtain ⟨u,rfl,r1⟩:=vals1 r
  cases r1
  exact call_int_bool ⟨.int (if k then 1 else 0),H,I.tok _,⟨_,rfl⟩,q⟩
def LenV(K:PySem.W.Frag)(x:V)(H:Hp)(n:Nat):Prop:=
 match x with
 | .str y=>y.length <= sizeLine /\ n=y.length
 | .byt y=>y.size <= sizeLine /\ n=y.size
 | .ref p=>(∃ xs,SqL K H p xs /\ n=xs.length) \/ ∃ xs,SqT K H p xs /\ n=xs.length
 | _=>False
theorem call_len:CallR X (.builtin "len") (fun xs H Q=>∃ x n,xs=[x] /\ LenV X.K x H n /\ Q (.int n) H):=by
 intro pins s σ H xs us Q I r h
 obtain ⟨x,n,rfl,e,q⟩:=h
 obtain ⟨u,rfl,rx⟩:=vals1 r
 have hl:=line63
 have hs:sizeLine=16777216:=sizeLine_eq
 cases x with
 | str y=>
  obtain ⟨t,rfl⟩:=rx
  obtain ⟨hy,e'⟩:y.length <= sizeLine /\ n=y.length:=e
  subst e'
  exact len_str (by omega) ⟨.int _,H,I.tok _,⟨_,rfl⟩,q⟩
 | byt y=>
  obtain ⟨t,rfl⟩:=rx
  obtain ⟨hy,e'⟩:y.size <= sizeLine /\ n=y.size:=e
  subst e'
  exact PySem.W.len_bytes (by omega) ⟨.int _,H,I.tok _,⟨_,rfl⟩,q⟩
 | ref p=>
  cases rx
  have e':(∃ xs,SqL X.K H p xs /\ n=xs.length) \/ ∃ xs,SqT X.K H p xs /\ n=xs.length:=e
  rcases e' with ⟨xs,hx,e'⟩ | ⟨xs,hx,e'⟩
  ·subst e'
   obtain ⟨its,r',pl,hz⟩:=I.list hx
   have hlen:=r'.length
   exact Calls.call_len_list pl.isList (by simp only [List.size_toArray];omega) ⟨.int xs.length,H,I.tok _,⟨_,by simp only [List.size_toArray];rw [hlen]⟩,q⟩
  ·subst e'
   obtain ⟨its,r',pl,hz⟩:=I.tuple hx
   have hlen:=r'.length
   exact len_tuple pl (by simp only [List.size_toArray];omega) ⟨.int xs.length,H,I.tok _,⟨_,by simp only [List.size_toArray];rw [hlen]⟩,q⟩
 | _=>exact (show False from e).elim
end
end L2
namespace L2
open PySem PySem.Spec PyProof.Rows
structure ObjM(h:Heap)(x dx C:Addr)(mA:Str->Option Value):Prop where
 obj:h.get? x=some (instObj C dx)
 ns:h.Ns1 dx mA
 ne:dx≠x
theorem lookIn_ns{h:Heap}{dx:Addr}{mA:Str->Option Value}(n:h.Ns1 dx mA):∃ od,h.get? dx=some od /\ ∀ name,lookIn name od=some (mA name):=by
 obtain ⟨o,es,ep,ho,hd,hk,_,hm⟩:=n
 refine ⟨o,ho,fun name=>?_⟩
 have e:=hm name
 unfold nsFind findBy at e
 rw [<- Array.find?_toList] at e
 unfold lookIn
 rw [hd]
 dsimp only
 split
 ·rename_i y q
  rw [q] at e
  exact congrArg some e
 ·rename_i q
  rw [q] at e
  have a:es.toList.any (·.refKey)=false:=by
   rw [List.any_eq_false]
   intro y hy
   obtain ⟨z,t,hkey⟩:=hk y (Array.mem_toList_iff.mp hy)
   simp [DictEntry.refKey,hkey]
  have a':¬ es.toList.any (·.refKey)=true:=by rw [a];exact Bool.false_ne_true
  rw [if_neg a']
  exact congrArg some e
theorem ObjM.look{h:Heap}{x dx C:Addr}{mA:Str->Option Value}(I:ObjM h x dx C mA):∃ od,PySem.W.InstAt h x (instObj C dx) C (some od) /\ ∀ name,lookIn name od=some (mA name):=
 let ⟨od,ho,hl⟩:=lookIn_ns I.ns
 ⟨od,⟨I.obj,rfl,rfl,ho⟩,hl⟩
section
variable {prog:Program} {w:World} {A:Around} {E:Value->Shared->Prop} {s:Shared} {K:PySem.W.Frag} {x dx C f:Addr} {mA:Str->Option Value} {name:Str} {v:Value}
theorem get_map{expr:Bool}{Q:Value->Shared->Prop}(X:K.In s.heap)(I:ObjM s.heap x dx C mA)(hg:plainGet K C name=true)(hh:hasDictIn K C=true)
  (ha:findIn K (.ref C) name=some none) (hv:mA name=some v) (hv':PySem.W.handedIn v=true) (h:Q v { s with toks:=s.toks+1 }):
  wpAny (model prog w) A (getAttr (.ref x) name expr) Q E s:=by
 obtain ⟨od,J,hl⟩:=I.look
 exact PySem.W.get_value X J (PySem.W.plainGet_of hg).1 (PySem.W.findObj_own hh ha rfl (by rw [hl,hv])) hv' h
theorem get_meth{pl:Sem Bool}{Q:Value × List Value->Shared->Prop}(X:K.In s.heap)(I:ObjM s.heap x dx C mA)(hg:plainGet K C name=true)
  (hf:findIn K (.ref C) name=some (some (.ref f))) (ht:isFn K (.ref f)=true) (hv:mA name=none) (h:Q (.ref f,[.ref x]) s):
  wpAny (model prog w) A (getMethod (.ref x) name pl) Q E s:=by
 obtain ⟨od,J,hl⟩:=I.look
 exact PySem.W.method_fn X J (PySem.W.plainGet_of hg).1 (PySem.W.plainGet_of hg).2 hf (beq_iff_eq.mp ht) (by show (lookIn name od).map (·.isSome)=some false;rw [hl,hv];rfl) h
theorem set_map{ns:List Str}{Q:Unit->Shared->Prop}(X:K.In s.heap)(I:ObjM s.heap x dx C mA)
  (hs:findIn K (.ref C) "__setattr__"=some (some (.builtin "object.__setattr__"))) (hp:plainOver K C=true) (ht:PySem.W.takerIn K C name=some none) (hh:hasDictIn K C=true)
  (hw:PySem.Within mA ns) (hsz:ns.length <= sizeLine)
  (h:∀ h',ObjM h' x dx C (fun y=>if y=name then some v else mA y)->Heap.SameBut dx s.heap h'->Q () { s with heap:=h',toks:=s.toks+2 }):
  wpAny (model prog w) A (setAttr (.ref x) name v) Q E s:=by
 obtain ⟨od,J,hl⟩:=I.look
 refine PySem.W.set_plain X J hs (PySem.W.osa_open (s:={ s with toks:=s.toks+1 }) (r:=none) X J hp ht fun b=>?_)
 obtain ⟨cd,hc,hd'⟩:=PySem.W.any_some hh
 have hx:s.heap.get? x=some ⟨.ref C,some dx,.plain,#[]⟩:=I.obj
 refine wpAny_bind (wpAny_pure (wpAny_bind (wpAny_bind (wpAny_loadPart hx (wpAny_bind (PySem.W.Looks.here (s:={ s with toks:=s.toks+1 }) (PySem.W.looks_clsIn X hc) ?_))))))
 rw [hd']
 refine wpAny_pure (a:=some dx) (wpAny_bind (wpAny_pure (wpAny_bind ?_)))
 refine wpAny_nsSet1 (s:={ s with toks:=s.toks+1 }) I.ns fun h' hn2 hs2=>?_
 obtain ⟨oD,esD,epD,hoD,hdD,hcD⟩:=hn2.count (PySem.Within.cons name v hw)
 refine wpAny_bind (wpAny_lookBehind hoD (by rw [hdD];exact pastItsLine_dict (Nat.le_trans hcD (by rw [List.length_cons];omega))) ?_)
 exact wpAny_pure (h _ ⟨(hs2.2 _ (Ne.symm I.ne)).trans I.obj,hn2,I.ne⟩ hs2)
theorem make_map{R:Result->Shared->Prop}{vs:List Value}{kw:List (Str × Value)}(X:K.In s.heap)(hm:makesIn K C=true)
  (hi:findIn K (.ref C) "__init__"=some (some (.ref f))) (hf:PySem.W.typeIn K (.ref f)=some (.type "function"))
  (h:codeAny (model prog w) (A.under (.builtin "type.__call__" ⟨.ref C :: vs,kw⟩)) (.call (.ref f) ⟨.ref (s.heap.objs.size+1) :: vs,kw⟩) (PySem.W.InitBack (s.heap.objs.size+1) R)
   { s with heap:=(s.heap.push emptyDict).push (instObj C s.heap.objs.size) }):
  codeAny (model prog w) A (.call (.ref C) ⟨vs,kw⟩) R s:=by
 obtain ⟨hh,g,d,t,os⟩:=s
 exact PySem.W.make_core (PySem.W.makes_of X hm) (PySem.W.looks_findIn X hi) (fun self=>PySem.W.bind_fn X self hf) (.inl rfl) h
end
def putF(f:Str)(v:V):List (Str × V)->List (Str × V)
 | []=>[(f,v)]
 | (g,x) :: r=>if g=f then (g,v) :: r else (g,x) :: putF f v r
theorem lookup_putF(f g:Str)(v:V):∀ fs:List (Str × V),(putF f v fs).lookup g=if g=f then some v else fs.lookup g
 | []=>by
  show List.lookup g [(f,v)]=_
  by_cases h:g=f
  ·have hb:(g==f)=true:=beq_iff_eq.mpr h
   simp only [List.lookup,hb,if_pos h]
  ·have hb:(g==f)=false:=beq_eq_false_iff_ne.mpr h
   simp only [List.lookup,hb,if_neg h]
 | (k,x) :: r=>by
  have ih:=lookup_putF f g v r
  rw [show putF f v ((k,x) :: r)=(if k=f then (k,v) :: r else (k,x) :: putF f v r) from rfl]
  by_cases hk:k=f
  ·rw [if_pos hk]
   by_cases h:g=k
   ·have hb:(g==k)=true:=beq_iff_eq.mpr h
    simp only [List.lookup,hb,if_pos (h.trans hk)]
   ·have hb:(g==k)=false:=beq_eq_false_iff_ne.mpr h
    simp only [List.lookup,hb,if_neg (fun e:g=f=>h (e.trans hk.symm))]
  ·rw [if_neg hk]
   by_cases h:g=k
   ·have hb:(g==k)=true:=beq_iff_eq.mpr h
    simp only [List.lookup,hb,if_neg (fun e:g=f=>hk (h.symm.trans e))]
   ·have hb:(g==k)=false:=beq_eq_false_iff_ne.mpr h
    simp only [List.lookup,hb]
    exact ih
theorem keys_putF(f:Str)(v:V):∀ fs:List (Str × V),f∈(putF f v fs).map (·.1) /\ ∀ g,g∈fs.map (·.1)->g∈(putF f v fs).map (·.1)
 | []=>⟨by simp [putF],fun g h=>by simp at h⟩
 | (k,x) :: r=>by
  obtain ⟨i1,i2⟩:=keys_putF f v r
  rw [show putF f v ((k,x) :: r)=(if k=f then (k,v) :: r else (k,x) :: putF f v r) from rfl]
  by_cases hk:k=f
  ·rw [if_pos hk]
   subst hk
   exact ⟨by simp,fun g h=>by simpa using h⟩
  ·rw [if_neg hk]
   refine ⟨?_,fun g h=>?_⟩
   ·rw [List.map_cons]
    exact List.mem_cons_of_mem _ i1
   ·rw [List.map_cons] at h ⊢
    rcases List.mem_cons.mp h with e | e
    ·exact List.mem_cons.mpr (.inl e)
    ·exact List.mem_cons_of_mem _ (i2 g e)
theorem length_putF(f:Str)(v:V):∀ fs:List (Str × V),(putF f v fs).length <= fs.length+1
 | []=>by simp [putF]
 | (k,x) :: r=>by
  have ih:=length_putF f v r
  rw [show putF f v ((k,x) :: r)=(if k=f then (k,v) :: r else (k,x) :: putF f v r) from rfl]
  by_cases hk:k=f
  ·rw [if_pos hk,List.length_cons,List.length_cons];omega
  ·rw [if_neg hk,List.length_cons,List.length_cons];omega
theorem RelO.some_of{v:V}{o:Option Value}(r:RelO (some v) o):∃ u,o=some u /\ RelV v u:=by
 cases o with
 | none=>exact (show False from r).elim
 | some u=>exact ⟨u,rfl,r⟩
theorem RelO.none_of{o:Option Value}(r:RelO none o):o=none:=by
 cases o with
 | none=>rfl
 | some u=>exact (show False from r).elim
theorem handed_of{v:V}{u:Value}(r:RelV v u):PySem.W.handedIn u=true:=by
 cases v with
 | non=>cases (show u=Value.none from r);rfl
 | bl b=>cases (show u=Value.bool b from r);rfl
 | int i=>obtain ⟨t,e⟩:=(show ∃ t,u=Value.int i t from r);cases e;rfl
 | str x=>obtain ⟨t,e⟩:=(show ∃ t,u=Value.str x t from r);cases e;rfl
 | byt b=>obtain ⟨t,e⟩:=(show ∃ t,u=Value.bytes b t from r);cases e;rfl
 | flt b=>obtain ⟨t,e⟩:=(show ∃ t,u=Value.float b t from r);cases e;rfl
 | ref a=>cases (show u=Value.ref a from r);rfl
 | ty n=>cases (show u=Value.type n from r);rfl
section
variable {P:Program} {w:World} {H H':Hp} {h h':Heap} {a C dx:Addr} {fs fs':List (Str × V)}
theorem ins_get(hok:HOk P w H h)(e:H a=some (.ins C dx fs)):∃ mA,ObjM h a dx C mA /\ (∀ f,RelO (fs.lookup f) (mA f)) /\ PySem.Within mA (fs.map (·.1)) /\ fs.length <= 1000 /\ H dx=some (.own a):=by
 obtain ⟨d,z,ne,ob,mA,n,r,q⟩:=(show ObjOk P w H h a (.ins C dx fs) from hok a _ e)
 exact ⟨mA,⟨ob,n,ne⟩,r,q,z,d⟩
end
structure Cls(K:PySem.W.Frag)(C:Addr):Prop where
 pg:plainGet K C Str.empty=true
 hd:hasDictIn K C=true
 po:plainOver K C=true
 sa:findIn K (.ref C) "__setattr__"=some (some (.builtin "object.__setattr__"))
theorem Cls.get{K:PySem.W.Frag}{C:Addr}(c:Cls K C)(f:Str):plainGet K C f=true:=c.pg
def NoAttr(K:PySem.W.Frag)(C:Addr)(f:Str):Prop:=findIn K (.ref C) f=some none
theorem NoAttr.taker{K:PySem.W.Frag}{C:Addr}{f:Str}(n:NoAttr K C f):PySem.W.takerIn K C f=some none:=by
 unfold PySem.W.takerIn
 rw [show findIn K (.ref C) f=some none from n]
 rfl
structure Meth(K:PySem.W.Frag)(C:Addr)(m:Str)(f:Addr):Prop where
 at_:findIn K (.ref C) m=some (some (.ref f))
 fn:isFn K (.ref f)=true
 kp:keepIn K (.ref f)=true
section
variable {X:Cx} {pins:List (Addr × Obj)} {σ:St} {H:Hp} {s:Shared} {a C dx:Addr} {fs:List (Str × V)} {f:Str} {v:V} {A:Around} {E:Value->Shared->Prop}
theorem getattr_ok{b:Bool}{Q:Value->Shared->Prop}(I:Inv X pins σ H s)(e:H a=some (.ins C dx fs))(c:Cls X.K C)(n:NoAttr X.K C f)(l:fs.lookup f=some v)
  (h:∀ u s',Inv X pins σ H s'->RelV v u->Q u s'):wpAny (model X.prog X.w) A (getAttr (.ref a) f b) Q E s:=by
 obtain ⟨mA,O,r,_,_,_⟩:=ins_get I.hok e
 obtain ⟨u,hu,ru⟩:=RelO.some_of (v:=v) (o:=mA f) (by rw [<- l];exact r f)
 exact get_map I.kIn O (c.get f) c.hd n hu (handed_of ru) (h u _ (I.tok _) ru)
theorem getmeth_ok{m:Str}{g:Addr}{pl:Sem Bool}{Q:Value × List Value->Shared->Prop}(I:Inv X pins σ H s)(e:H a=some (.ins C dx fs))(c:Cls X.K C)(k:Meth X.K C m g)(l:fs.lookup m=none)
  (h:Q (.ref g,[.ref a]) s):wpAny (model X.prog X.w) A (getMethod (.ref a) m pl) Q E s:=by
 obtain ⟨mA,O,r,_,_,_⟩:=ins_get I.hok e
 have hn:mA m=none:=RelO.none_of (by rw [<- l];exact r m)
 exact get_meth I.kIn O (c.get m) k.at_ k.fn hn h
theorem setattr_ok{y:V}{u:Value}{Q:Unit->Shared->Prop}(I:Inv X pins σ H s)(e:H a=some (.ins C dx fs))(c:Cls X.K C)(n:NoAttr X.K C f)(hl:fs.length < 1000)(ry:RelV y u)
  (h:∀ s',Inv X pins σ (upd H a (.ins C dx (putF f y fs))) s'->Q () s'):wpAny (model X.prog X.w) A (setAttr (.ref a) f u) Q E s:=by
 obtain ⟨mA,O,r,wi,_,ho⟩:=ins_get I.hok e
 have hz:(fs.map (·.1)).length <= sizeLine:=by rw [List.length_map,sizeLine_eq];omega
 refine set_map I.kIn O c.sa c.po n.taker c.hd wi hz fun h' O' sb=>h _ ?_
 have hd:∃ o,h'.get? dx=some o:=let ⟨o,_,_,e',_⟩:=O'.ns;⟨o,e'⟩
 refine I.write (x:=a) (e:=dx) (by rw [e];exact True.intro) (.inr ho) (fun b q hb z=>(sb.2 b hb).trans z) hd ?_
 refine ⟨by rw [upd_ne O.ne];exact ho,?_,O.ne,O'.obj,_,O'.ns,fun g=>?_,fun g hg=>?_⟩
 ·have:=length_putF f y fs;omega
 ·show RelO ((putF f y fs).lookup g) (if g=f then some u else mA g)
  rw [lookup_putF]
  by_cases q:g=f
  ·rw [if_pos q,if_pos q];exact ry
  ·rw [if_neg q,if_neg q];exact r g
 ·by_cases q:g=f
  ·rw [q];exact (keys_putF f y fs).1
  ·refine (keys_putF f y fs).2 g (wi g fun z=>hg ?_)
   show (if g=f then some u else mA g)=none
   rw [if_neg q];exact z
theorem Inv.made(I:Inv X pins σ H s):Inv X pins σ (upd (upd H s.heap.objs.size (.own (s.heap.objs.size+1))) (s.heap.objs.size+1) (.ins C s.heap.objs.size []))
  { s with heap:=(s.heap.push emptyDict).push (instObj C s.heap.objs.size) }:=by
 have e1:(s.heap.push emptyDict).get? s.heap.objs.size=some emptyDict:=Heap.get?_push_size s.heap rfl
 have e2:((s.heap.push emptyDict).push (instObj C s.heap.objs.size)).get? (s.heap.objs.size+1)=some (instObj C s.heap.objs.size):=by
  have:=Heap.get?_push_size (s.heap.push emptyDict) (o:=instObj C s.heap.objs.size) rfl
  rwa [Heap.size_push] at this
 have e3:(s.heap.push emptyDict).Ns s.heap.objs.size (fun _=>none):=⟨emptyDict,#[],_,e1,rfl,(fun e he=>absurd he (by simp)),fun _=>rfl⟩
 have I1:=I.laid (a:=s.heap.objs.size) (o:=.own (s.heap.objs.size+1)) (h':=s.heap.push emptyDict) (t':=s.toks) (fun b u q=>Heap.get?_push_of_some _ q) (Nat.le_refl _) ⟨_,e1⟩
 refine I1.laid (a:=s.heap.objs.size+1) (o:=.ins C s.heap.objs.size []) (t':=s.toks) (fun b u q=>Heap.get?_push_of_some _ q) (Nat.le_of_eq (Heap.size_push _ _)) ?_
 have ne:s.heap.objs.size≠s.heap.objs.size+1:=Nat.ne_of_lt (Nat.lt_succ_self _)
 refine ⟨by rw [upd_ne ne,upd_same],Nat.zero_le _,ne,e2,fun _=>none,(Heap.Ns1.of_empty e3).at fun o q=>Heap.get?_push_of_some _ q,fun _=>True.intro,fun y hy=>absurd rfl hy⟩
theorem attr_of{prog:Program}{w:World}{env:Env}{e:Expr}{f:Str}{pos:Pos}{s:Shared}{Q:Value->Shared->Prop}(hb:attributeBase e f env (eval e env)=eval e env)
  (h:wpAny (model prog w) A (eval e env) (fun o s₁=>wpAny (model prog w) A (getAttr o f true) Q E s₁) E s):wpAny (model prog w) A (eval (.Attribute e f pos) env) Q E s:=
 Attribute_any_ h (by rw [arm_eval_Attribute,hb])
end
def tFld(K:PySem.W.Frag)(ta:TE)(f:Str):TE:=fun σ H Q=>ta σ H fun x H1=>∃ a C dx fs v,x=.ref a /\ H1 a=some (.ins C dx fs) /\ Cls K C /\ NoAttr K C f /\ fs.lookup f=some v /\ Q v H1
def sFld(K:PySem.W.Frag)(ta tv:TE)(f:Str):TS:=fun D σ H=>tv σ H fun y H1=>ta σ H1 fun x H2=>∃ a C dx fs,x=.ref a /\ H2 a=some (.ins C dx fs) /\ Cls K C /\ NoAttr K C f /\ fs.length < 1000 /\
 D.nx σ (upd H2 a (.ins C dx (putF f y fs)))
def InOp(X:Cx)(op:Operator)(rd:V->V->Hp->VK->Prop):Prop:=
 ∀ (pins:List (Addr × Obj)) (s:Shared) (σ:St) (H:Hp) (x y:V) (u v:Value) (Q:VK),Inv X pins σ H s->RelV x u->RelV y v->rd x y H Q->wpAny (model X.prog X.w) X.A (inplaceOp op u v) (EP X pins σ Q) X.xe s
def sFldAug(K:PySem.W.Frag)(ta tv:TE)(rd:V->V->Hp->VK->Prop)(f:Str):TS:=fun D σ H=>ta σ H fun x H1=>∃ a C dx fs v,x=.ref a /\ H1 a=some (.ins C dx fs) /\ Cls K C /\ NoAttr K C f /\ fs.lookup f=some v /\
 tv σ H1 fun y H2=>rd v y H2 fun z H3=>∃ dx' fs',H3 a=some (.ins C dx' fs') /\ fs'.length < 1000 /\ D.nx σ (upd H3 a (.ins C dx' (putF f z fs')))
section
variable {X:Cx} {o e value:Expr} {f:Str} {pos pos' tpos:Pos} {ta tv:TE}
theorem pe_fld(he:PE X e ta)(hb:attributeBase e f X.env (eval e X.env)=eval e X.env):PE X (.Attribute e f pos) (tFld X.K ta f):=by
 intro pins s σ H Q I h
 refine attr_of hb (thn (he pins s σ H _ I h) fun u s1 ⟨x,H1,I1,rx,a,C,dx,fs,v,ex,ea,c,n,l,q⟩=>?_)
 subst ex
 obtain rfl:u=Value.ref a:=rx
 exact getattr_ok I1 ea c n l fun u' s2 I2 ru=>⟨v,H1,I2,ru,q⟩
theorem ps_fld(ha:PE X o ta)(hv:PE X value tv)(hs:swapsWith value (some (.Attribute o f pos')) pos.line X.env=pure false):PS X (.Assign [.Attribute o f pos'] value pos) (sFld X.K ta tv f):=by
 intro pins s σ H D I h
 refine plainObj_wpAny_Assign_Attribute (thn (hv pins s σ H _ I h) fun u s1 ⟨y,H1,I1,ry,q⟩=>thn (ha pins s1 σ H1 _ I1 q) fun ov s2 ⟨x,H2,I2,rx,a,C,dx,fs,ex,ea,c,n,l,q2⟩=>?_) hs
 subst ex
 obtain rfl:ov=Value.ref a:=rx
 exact setattr_ok I2 ea c n l ry fun s3 I3=>⟨σ,_,I3,q2⟩
theorem ps_fldaug{op:Operator}{rd:V->V->Hp->VK->Prop}(ha:PE X o ta)(hv:PE X value tv)(hop:InOp X op rd):PS X (.AugAssign (.Attribute o f tpos) op value pos) (sFldAug X.K ta tv rd f):=by
 intro pins s σ H D I h
 refine wpAny_AugAssign_AttributeAny (thn (ha pins s σ H _ I h) fun ov s1 ⟨x,H1,I1,rx,a,C,dx,fs,v,ex,ea,c,n,l,q⟩=>?_)
 subst ex
 obtain rfl:ov=Value.ref a:=rx
 refine getattr_ok I1 ea c n l fun u s2 I2 ru=>thn (hv pins s2 σ H1 _ I2 q) fun w3 s3 ⟨y,H2,I3,ry,q3⟩=>thn (hop pins s3 σ H2 v y u w3 _ I3 ru ry q3) fun w4 s4 ⟨z,H3,I4,rz,dx',fs',ea',l',q4⟩=>?_
 exact setattr_ok I4 ea' c n l' rz fun s5 I5=>⟨σ,_,I5,q4⟩
def rAdd:V->V->Hp->VK->Prop:=fun x y H Q=>∃ i j,x=.int i /\ y=.int j /\ Q (.int (i+j)) H
theorem in_add:InOp X .Add rAdd:=by
 rintro pins s σ H x y u v Q I rx ry ⟨i,j,rfl,rfl,q⟩
 obtain ⟨t,rfl⟩:=(show ∃ t,u=Value.int i t from rx)
 obtain ⟨t',rfl⟩:=(show ∃ t',v=Value.int j t' from ry)
 exact PyProof.Rows.iadd_int ⟨.int (i+j),H,I.tok _,⟨_,rfl⟩,q⟩
end
section
variable {X:Cx} {pins:List (Addr × Obj)} {σ:St} {H:Hp} {s:Shared} {A:Around} {E:Value->Shared->Prop} {Q:Value->Shared->Prop} {c:Value} {b:Bool}
inductive TyOf(K:PySem.W.Frag)(H:Hp):V->Value->Prop where
 | non:TyOf K H .non (.type "NoneType")
 | bl (x:Bool):TyOf K H (.bl x) (.type "bool")
 | int (i:Int):TyOf K H (.int i) (.type "int")
 | str (x:Str):TyOf K H (.str x) (.type "str")
 | flt (x:UInt64):TyOf K H (.flt x) (.type "float")
 | lst {a:Addr} {xs:List V} (e:H a=some (.lst xs)):TyOf K H (.ref a) (.type "list")
 | frz {a:Addr} {o:Obj} {xs:List V} (e:H a=some (.frz o (.lst xs))):TyOf K H (.ref a) (.type "list")
 | tup {a:Addr} {xs:List V} (e:H a=some (.tup xs)):TyOf K H (.ref a) (.type "tuple")
 | dK {a:Addr} {kvs:List (Key × V)} (e:H a=some (.dK kvs)):TyOf K H (.ref a) (.type "dict")
 | dT {a:Addr} {kvs:List (List Key × V)} (e:H a=some (.dT kvs)):TyOf K H (.ref a) (.type "dict")
 | ins {a C dx:Addr} {fs:List (Str × V)} (e:H a=some (.ins C dx fs)) (cl:Cls K C) (ha:findIn K (.ref C) "__class__"=some (some (.builtin "object.__class__")))
   (hn:specialIn K (.builtin "object.__class__") "__get__"=some (some (.builtin "getset_descriptor.__get__"))) (htk:takesIn K (.builtin "object.__class__")=some true)
   (hm:mroIn K C (.type "object")=some true):TyOf K H (.ref a) (.ref C)
theorem isinst_ok{x:V}{u t:Value}(I:Inv X pins σ H s)(rx:RelV x u)(ty:TyOf X.K H x t)(e:kitOne X.K t c=some b)(h:∀ tk,Q (.bool b) { s with toks:=tk }):
  wpAny (model X.prog X.w) A (call (.builtin "isinstance") [u,c]) Q E s:=by
 cases ty with
 | non=>cases (show u=Value.none from rx);exact kia_one PySem.W.kitx_none I.kIn True.intro e (fun z=>nomatch z) h
 | bl y=>cases (show u=Value.bool y from rx);exact kia_one PySem.W.kitx_bool I.kIn True.intro e (fun z=>nomatch z) h
 | int i=>obtain ⟨t,q⟩:=(show ∃ t,u=Value.int i t from rx);cases q;exact kia_one PySem.W.kitx_int I.kIn True.intro e (fun z=>nomatch z) h
 | str y=>obtain ⟨t,q⟩:=(show ∃ t,u=Value.str y t from rx);cases q;exact kia_one PySem.W.kitx_str I.kIn True.intro e (fun z=>nomatch z) h
 | flt y=>obtain ⟨t,q⟩:=(show ∃ t,u=Value.float y t from rx);cases q;exact kia_one PySem.W.kitx_float I.kIn True.intro e (fun z=>nomatch z) h
 | @lst a xs ea=>
  cases (show u=Value.ref a from rx)
  obtain ⟨_,_,n,_,h1⟩:=(show ObjOk X.prog X.w H s.heap a (.lst xs) from I.hok a _ ea)
  exact kia_one PySem.W.kitx_list I.kIn ⟨_,h1,rfl⟩ e (fun z=>nomatch z) h
 | @frz a ob xs ea=>
  cases (show u=Value.ref a from rx)
  obtain ⟨_,_,_,n,_,h1⟩:=(show ObjOk X.prog X.w H s.heap a (.frz ob (.lst xs)) from I.hok a _ ea)
  exact kia_one PySem.W.kitx_list I.kIn ⟨_,h1,rfl⟩ e (fun z=>nomatch z) h
 | @tup a xs ea=>
  cases (show u=Value.ref a from rx)
  obtain ⟨_,_,_,p⟩:=(show ObjOk X.prog X.w H s.heap a (.tup xs) from I.hok a _ ea)
  obtain ⟨o,h1,h2,_⟩:=p
  exact kia_one PySem.W.kitx_tuple I.kIn ⟨o,h1,h2⟩ e (fun z=>nomatch z) h
 | @dK a kvs ea=>
  cases (show u=Value.ref a from rx)
  obtain ⟨_,_,vs,_,p⟩:=(show ObjOk X.prog X.w H s.heap a (.dK kvs) from I.hok a _ ea)
  obtain ⟨o,es,ep,h1,h2,_⟩:=p
  exact kia_one PySem.W.kitx_dict I.kIn ⟨o,h1,h2.1⟩ e (fun z=>nomatch z) h
 | @dT a kvs ea=>
  cases (show u=Value.ref a from rx)
  obtain ⟨_,_,xs,_,o,es,ep,h1,h2,_⟩:=(show ObjOk X.prog X.w H s.heap a (.dT kvs) from I.hok a _ ea)
  exact kia_one PySem.W.kitx_dict I.kIn ⟨o,h1,h2.1⟩ e (fun z=>nomatch z) h
 | @ins a C dx fs ea cl ha hn htk hm=>
  cases (show u=Value.ref a from rx)
  obtain ⟨mA,O,_⟩:=ins_get I.hok ea
  obtain ⟨od,J,_⟩:=O.look
  exact kia_one (PySem.W.kitx_own (cl.get _) cl.hd ha hn htk hm) I.kIn J e (fun z=>nomatch z) h
end
end L2
namespace L2
open PySem PySem.Spec PyProof.Rows
structure Room(k:Nat)(A:Around):Prop where
 hd:A.handled=none
 dp:A.depth+3*k+5 < recursionLimit
 un:A.units+16*k+200 < cLine
theorem Room.mono{j k:Nat}{A:Around}(r:Room k A)(h:j <= k):Room j A:=⟨r.hd,by have:=r.dp;omega,by have:=r.un;omega⟩
theorem Room.deeper{k:Nat}{A:Around}(r:Room (k+1) A)(env:Env):Room k (A.deeper env):=
 ⟨r.hd,by have:=r.dp;show A.depth+1+3*k+5 < _;omega,by have:=r.un;show A.units+3+16*k+200 < _;omega⟩
theorem make_depth{A:Around}{C:Addr}{us:List Value}{kw:List (Str × Value)}:(A.under (.builtin "type.__call__" ⟨.ref C :: us,kw⟩)).depth=A.depth+1:=by
 first | rfl | simp [Around.under,Code.weight,Code.isCreation,Code.isGuard,Code.isCaller,Code.frames,Code.isFrame,guardIds]
theorem make_units{A:Around}{C:Addr}{us:List Value}{kw:List (Str × Value)}:(A.under (.builtin "type.__call__" ⟨.ref C :: us,kw⟩)).units=A.units+1:=by
 first | rfl | simp [Around.under,Code.cUnits,Code.frames,Code.isFrame]
theorem Room.make{k:Nat}{A:Around}(r:Room (k+1) A)(C:Addr)(us:List Value)(kw:List (Str × Value)):Room k (A.under (.builtin "type.__call__" ⟨.ref C :: us,kw⟩)):=
 ⟨r.hd,by have:=r.dp;rw [make_depth];omega,by have:=r.un;rw [make_units];omega⟩
theorem Room.depth{k:Nat}{A:Around}(r:Room k A):A.depth < recursionLimit:=by have:=r.dp;omega
theorem Room.units{k:Nat}{A:Around}(r:Room k A):A.units+64 < cLine:=by have:=r.un;omega
def tNil:TA:=fun _ H Q=>Q [] H
def tCons(ta:TE)(tr:TA):TA:=fun σ H Q=>ta σ H fun x H1=>tr σ H1 fun xs H2=>Q (x :: xs) H2
section
variable {X:Cx} {e:Expr} {es:List Expr} {te:TE} {t:TA} {pos:Pos}
theorem pa_nil:PA X [] tNil:=fun _ _ _ _ H Q I h=>Calls.spliced_nil ⟨[],H,I,.nil,h⟩
theorem pa_cons(ha:PE X e te)(hr:PA X es t)(hs:starEach (e :: es) X.env=(false,eval e X.env) :: starEach es X.env:=by rfl):PA X (e :: es) (tCons te t):=by
 intro pos pins s σ H Q I h
 rw [hs]
 show wpAny _ _ (spliced ((false,eval e X.env) :: backTo pos (starEach es X.env))) _ _ s
 refine Calls.spliced_cons (thn (ha pins s σ H _ I h) fun u s1 ⟨x,H1,I1,r1,q1⟩=>?_)
 exact thn (hr pos pins s1 σ H1 _ I1 q1) fun us s2 ⟨xs,H2,I2,r2,q2⟩=>⟨x :: xs,H2,I2,.cons r1 r2,q2⟩
def tTup(t:TA):TE:=fun σ H Q=>t σ H fun xs H1=>xs.length <= sizeLine /\ ∀ p,H1 p=none->Q (.ref p) (upd H1 p (.tup xs))
def tLst(t:TA):TE:=fun σ H Q=>t σ H fun xs H1=>xs.length <= sizeLine /\ ∀ p,H1 p=none->Q (.ref p) (upd H1 p (.lst xs))
theorem pe_tup{x1}(h:PA X es t):PE X (.Tuple es x1 pos) (tTup t):=by
 intro pins s σ H Q I hq
 refine wpAny_Tuple_spliced (thn (h pos pins s σ H _ I hq) fun us s1 ⟨xs,H1,I1,r,z,q⟩=>⟨by rw [<- r.length];exact z,?_⟩)
 have hf:H1 s1.heap.objs.size=none:=I1.hok.fresh (Nat.le_refl _)
 refine ⟨.ref s1.heap.objs.size,upd H1 s1.heap.objs.size (.tup xs),I1.laid (t':=s1.toks) (fun b u e=>Heap.get?_push_of_some _ e) (Nat.le_refl _) ?_,rfl,q _ hf⟩
 exact ⟨z,us,r,⟨_,Heap.get?_push_size _ rfl,rfl,_,rfl⟩⟩
theorem pe_lst(h:PA X es t):PE X (.List es pos) (tLst t):=by
 intro pins s σ H Q I hq
 refine wpAny_List_spliced (thn (h pos pins s σ H _ I hq) fun us s1 ⟨xs,H1,I1,r,z,q⟩=>⟨by rw [<- r.length];exact z,?_⟩)
 have hf:H1 s1.heap.objs.size=none:=I1.hok.fresh (Nat.le_refl _)
 refine ⟨.ref s1.heap.objs.size,upd H1 s1.heap.objs.size (.lst xs),I1.laid (t':=s1.toks) (fun b u e=>Heap.get?_push_of_some _ e) (Nat.le_refl _) ?_,rfl,q _ hf⟩
 exact ⟨z,us,0,r,Heap.get?_push_size _ rfl⟩
end
abbrev Sp:=List V->Hp->VK->XK->Prop
abbrev CXT:=List Env->Hp->Shared->XK->Value->Shared->Prop
structure Env0(P:Program)(w:World)(K:PySem.W.Frag)(mg:Str->Option Value)(base:Heap)(A:Around)(outer:List Env)(s:Shared)(H:Hp):Prop where
 frames:A.frames=some outer
 mod:Mod K mg base
 bs:∀ b o,base.get? b=some o->s.heap.get? b=some o /\ H b=none
 bsz:base.objs.size <= s.heap.objs.size
 funs:s.heap.FunFrames base outer
 frf:∀ b∈frs outer,H b=none
 hok:HOk P w H s.heap
 bare:AllBare s.gens
def CE(outer:List Env)(P:Program)(w:World)(H:Hp)(s:Shared)(Q:VK)(u:Value)(s':Shared):Prop:=
 ∃ v H',s'.os=s.os /\ AllBare s'.gens /\ Un (frs outer) [] H H' s.heap s'.heap /\ HOk P w H' s'.heap /\ RelV v u /\ Q v H'
def CR(CX:CXT)(outer:List Env)(P:Program)(w:World)(H:Hp)(s:Shared)(Q:VK)(E:XK)(r:Result)(s':Shared):Prop:=
 match r with
 | .ok (.ret u)=>CE outer P w H s Q u s'
 | .ok _=>False
 | .error e=>CX outer H s E e s'
structure FnOk(P:Program)(w:World)(K:PySem.W.Frag)(mg:Str->Option Value)(base:Heap)(CX:CXT)(k:Nat)(f:Addr)(fd:FuncData)(ps:List Str)(sp:Sp):Prop where
 len:∀ vs H Q E,sp vs H Q E->vs.length=ps.length
 run:∀ (A:Around) (outer:List Env) (s:Shared) (H:Hp) (args:Args) (us:List Value) (vs:List V) (Q:VK) (E:XK),Room k A->Env0 P w K mg base A outer s H->BindsTo s fd args (ps.zip us)->Vals vs us->sp vs H Q E->
  codeAny (model P w) A (.call (.ref f) args) (CR CX outer P w H s Q E) s
theorem Env0.make{P:Program}{w:World}{K:PySem.W.Frag}{mg:Str->Option Value}{base:Heap}{A:Around}{outer:List Env}{s:Shared}{H:Hp}(e:Env0 P w K mg base A outer s H)(C:Addr)(us:List Value)(kw:List (Str × Value)):
  Env0 P w K mg base (A.under (.builtin "type.__call__" ⟨.ref C :: us,kw⟩)) outer s H:=⟨by first | exact e.frames | (simpa [Around.under,Code.envs,Code.isFrame,pushEnvs] using e.frames),e.mod,e.bs,e.bsz,e.funs,e.frf,e.hok,e.bare⟩
section
variable {X:Cx} {pins:List (Addr × Obj)} {σ:St} {H:Hp} {s s':Shared}
theorem Inv.env0(I:Inv X pins σ H s):Env0 X.prog X.w X.K X.mg X.base X.A X.stack s H:=
 ⟨I.ok.frames,I.ok.mod,I.bs,Nat.le_trans I.ok.bsz I.sz,I.stack,I.stkFree,I.hok,I.bare⟩
theorem Inv.after{Q:VK}{u:Value}(I:Inv X pins σ H s)(h:CE X.stack X.prog X.w H s Q u s'):EP X pins σ Q u s':=by
 obtain ⟨v,H',os,bare,un,hok,r,q⟩:=h
 obtain ⟨hh,g,d,t,os'⟩:=s'
 obtain rfl:os'=s.os:=os
 exact ⟨v,H',I.call (h':=hh) (g':=g) (d':=d) (t':=t) (ch:=[]) un hok bare (fun b z=>absurd z (by simp)),r,q⟩
end
def tCall(sp:Sp)(dvs:List V)(E:XK)(t:TA):TE:=fun σ H Q=>t σ H fun vs H1=>sp (vs++dvs) H1 Q E
def tMeth(C:Addr)(m:Str)(sp:Sp)(dvs:List V)(E:XK)(ta:TE)(t:TA):TE:=fun σ H Q=>ta σ H fun x H1=>∃ a dx fs,x=.ref a /\ H1 a=some (.ins C dx fs) /\ fs.lookup m=none /\
 t σ H1 fun vs H2=>sp (x :: (vs++dvs)) H2 Q E
def tMake(C:Addr)(sp:Sp)(dvs:List V)(E:XK)(t:TA):TE:=fun σ H Q=>t σ H fun vs H1=>∀ x dx,H1 x=none->H1 dx=none->dx≠x->
 sp (.ref x :: (vs++dvs)) (upd (upd H1 dx (.own x)) x (.ins C dx [])) (fun v H2=>v=.non /\ Q (.ref x) H2) E
def Binds(K:PySem.W.Frag)(fd:FuncData)(ps:List Str)(ds:List Value):Prop:=
 ∀ (s:Shared) (us:List Value),K.In s.heap->(us++ds).length=ps.length->BindsTo s fd ⟨us,[]⟩ (ps.zip (us++ds))
theorem Binds.all{K:PySem.W.Frag}{fd:FuncData}{ps:List Str}(h:∀ us:List Value,us.length=ps.length->bindArgs fd ⟨us,[]⟩=pure (ps.zip us)):Binds K fd ps []:=fun s us _ hl=>by
 rw [List.append_nil] at hl ⊢
 exact .of_eq (h us hl)
def Passes(CX:CXT)(X:Cx)(E:XK):Prop:=∀ (pins:List (Addr × Obj)) (σ:St) (H:Hp) (s:Shared) (e:Value) (s':Shared),Inv X pins σ H s->CX X.stack H s E e s'->X.xe e s'
section
variable {X:Cx} {CX:CXT} {k:Nat} {f C:Addr} {fd:FuncData} {ps:List Str} {sp:Sp} {dvs:List V} {ds:List Value} {E:XK} {x m:Str} {p pos apos:Pos} {e o:Expr} {es:List Expr} {ta:TE} {t:TA}
theorem run_fn{pins:List (Addr × Obj)}{σ:St}{H:Hp}{s:Shared}{Q:VK}{us:List Value}{vs:List V}(F:FnOk X.prog X.w X.K X.mg X.base CX k f fd ps sp)(hr:Room k X.A)(hb:Binds X.K fd ps ds)(hd:Vals dvs ds)(hx:Passes CX X E)
  (I:Inv X pins σ H s) (r:Vals vs us) (h:sp (vs++dvs) H Q E):wpAny (model X.prog X.w) X.A (call (.ref f) us) (EP X pins σ Q) X.xe s:=by
 have r2:Vals (vs++dvs) (us++ds):=r.append hd
 have hl:(us++ds).length=ps.length:=by rw [<- r2.length];exact F.len _ _ _ _ h
 refine wpAny_call (codeAny_mono (F.run X.A X.stack s H ⟨us,[]⟩ (us++ds) (vs++dvs) Q E hr I.env0 (hb s us I.kIn hl) r2 h) fun r s' hq=>?_)
 cases r with
 | error e=>exact hx pins σ H s e s' I hq
 | ok fl=>
  cases fl with
  | ret u=>exact I.after hq
  | next=>exact False.elim hq
  | brk=>exact False.elim hq
  | cont=>exact False.elim hq
theorem pe_call(F:FnOk X.prog X.w X.K X.mg X.base CX k f fd ps sp)(hr:Room k X.A)(hg:Gl X x)(hm:X.mg x=some (.ref f))(hk:keepIn X.K (.ref f)=true)(hb:Binds X.K fd ps ds)(hd:Vals dvs ds)(hx:Passes CX X E)
  (ha:PA X (e :: es) t) (hdb:(x==("__debug__":Str))=false:=by decide) (he:starEach (e :: es) X.env=(false,eval e X.env) :: starEach es X.env:=by rfl) (hpl:(backTo pos (starEach es X.env)).any (·.1)=false:=by rfl):
  PE X (.Call (.Name x p) (e :: es) [] pos) (tCall sp dvs E t):=by
 intro pins s σ H Q I h
 refine wpAny_Call_Name_kw (ld_glob I hg hm ?_ hdb)
 refine PySem.W.callWith_K (h₀:=X.base) I.ok.mod.kin hk (thn (ha pos pins s σ H _ I h) fun us s1 ⟨vs,H1,I1,r,q⟩=>⟨I1.kIn,?_⟩) he hpl
 exact run_fn F hr hb hd hx I1 r q
theorem pe_meth{pl:Sem Bool}(he:PE X o ta)(c:Cls X.K C)(hm:Meth X.K C m f)(F:FnOk X.prog X.w X.K X.mg X.base CX k f fd ps sp)(hr:Room k X.A)(hb:Binds X.K fd ps ds)(hd:Vals dvs ds)(hx:Passes CX X E)(ha:PA X (e :: es) t)
  (hst:starEach (e :: es) X.env=(false,eval e X.env) :: starEach es X.env:=by rfl) (hpl:(backTo pos (starEach es X.env)).any (·.1)=false:=by rfl)
  (ht:eval (.Call (.Attribute o m apos) (e :: es) [] pos) X.env=(do
   let ov <- eval o X.env
   standAt apos.atName
   let (f,first) <- holding [ov] (getMethod ov m pl)
   callWith pos f first (backTo pos (starEach (e :: es) X.env)) (backToKw pos (keywordEach [] X.env))):=by rfl):
  PE X (.Call (.Attribute o m apos) (e :: es) [] pos) (tMeth C m sp dvs E ta t):=by
 intro pins s σ H Q I h
 refine PySem.W.methodCall_KW (pl:=pl) (thn (he pins s σ H _ I h) fun u s1 ⟨x,H1,I1,rx,a,dx,fs,ex,ea,l,q⟩=>?_) ht
 subst ex
 obtain rfl:u=Value.ref a:=rx
 refine getmeth_ok I1 ea c hm l ?_
 refine PySem.W.callWith_K (first:=[.ref a]) (h₀:=X.base) I.ok.mod.kin hm.kp (thn (ha pos pins s1 σ H1 _ I1 q) fun us s2 ⟨vs,H2,I2,r,q2⟩=>⟨I2.kIn,?_⟩) hst hpl
 exact run_fn (us:=.ref a :: us) (vs:=.ref a :: vs) F hr hb hd hx I2 (.cons rfl r) q2
theorem pe_meth0{pl:Sem Bool}(he:PE X o ta)(c:Cls X.K C)(hm:Meth X.K C m f)(F:FnOk X.prog X.w X.K X.mg X.base CX k f fd ps sp)(hr:Room k X.A)(hb:Binds X.K fd ps ds)(hd:Vals dvs ds)(hx:Passes CX X E)
  (ht:eval (.Call (.Attribute o m apos) [] [] pos) X.env=(do
   let ov <- eval o X.env
   standAt apos.atName
   let (f,first) <- holding [ov] (getMethod ov m pl)
   callWith pos f first (backTo pos (starEach [] X.env)) (backToKw pos (keywordEach [] X.env))):=by rfl):
  PE X (.Call (.Attribute o m apos) [] [] pos) (tMeth C m sp dvs E ta tNil):=by
 intro pins s σ H Q I h
 refine PySem.W.methodCall_KW (pl:=pl) (thn (he pins s σ H _ I h) fun u s1 ⟨x,H1,I1,rx,a,dx,fs,ex,ea,l,q⟩=>?_) ht
 subst ex
 obtain rfl:u=Value.ref a:=rx
 refine getmeth_ok I1 ea c hm l ?_
 exact PySem.W.callWith_K0 (first:=[.ref a]) I1.kIn hm.kp (run_fn (us:=[.ref a]) (vs:=[.ref a]) F hr hb hd hx I1 (.cons rfl .nil) q)
structure Mk(K:PySem.W.Frag)(C f:Addr):Prop where
 makes:makesIn K C=true
 init:findIn K (.ref C) "__init__"=some (some (.ref f))
 fn:isFn K (.ref f)=true
 kp:keepIn K (.ref C)=true
theorem run_make{pins:List (Addr × Obj)}{σ:St}{H:Hp}{s:Shared}{Q:VK}{us:List Value}{vs:List V}(M:Mk X.K C f)(F:FnOk X.prog X.w X.K X.mg X.base CX k f fd ps sp)(hr:Room (k+1) X.A)(hb:Binds X.K fd ps ds)(hd:Vals dvs ds)
  (hx:Passes CX X E) (I:Inv X pins σ H s) (r:Vals vs us)
  (h:∀ x dx,H x=none->H dx=none->dx≠x->sp (.ref x :: (vs++dvs)) (upd (upd H dx (.own x)) x (.ins C dx [])) (fun v H2=>v=.non /\ Q (.ref x) H2) E):
  wpAny (model X.prog X.w) X.A (call (.ref C) us) (EP X pins σ Q) X.xe s:=by
 have hq:=h (s.heap.objs.size+1) s.heap.objs.size (I.hok.fresh (Nat.le_succ _)) (I.hok.fresh (Nat.le_refl _)) (Nat.ne_of_lt (Nat.lt_succ_self _))
 have I2:=Inv.made (C:=C) I
 have r2:Vals (V.ref (s.heap.objs.size+1) :: (vs++dvs)) (Value.ref (s.heap.objs.size+1) :: (us++ds)):=.cons rfl (r.append hd)
 have hl:(Value.ref (s.heap.objs.size+1) :: us++ds).length=ps.length:=by
  have e:=r2.length
  rw [F.len _ _ _ _ hq] at e
  exact e.symm
 refine wpAny_call (make_map (f:=f) I.kIn M.makes M.init (beq_iff_eq.mp M.fn) (codeAny_mono (F.run _ X.stack _ _ ⟨Value.ref (s.heap.objs.size+1) :: us,[]⟩ (Value.ref (s.heap.objs.size+1) :: (us++ds)) _ _ E (hr.make C us [])
  (I2.env0.make C us []) (hb _ (Value.ref (s.heap.objs.size+1) :: us) I2.kIn hl) r2 hq) fun r s' hq'=>?_))
 cases r with
 | error e=>exact hx pins σ _ _ e s' I2 hq'
 | ok fl=>
  cases fl with
  | ret u=>
   obtain ⟨v,H',I3,rv,ev,q3⟩:=I2.after hq'
   subst ev
   exact ⟨rv,⟨V.ref (s.heap.objs.size+1),H',I3,rfl,q3⟩⟩
  | next=>exact False.elim hq'
  | brk=>exact False.elim hq'
  | cont=>exact False.elim hq'
theorem pe_make(M:Mk X.K C f)(F:FnOk X.prog X.w X.K X.mg X.base CX k f fd ps sp)(hr:Room (k+1) X.A)(hg:Gl X x)(hm:X.mg x=some (.ref C))(hb:Binds X.K fd ps ds)(hd:Vals dvs ds)(hx:Passes CX X E)
  (ha:PA X (e :: es) t) (hdb:(x==("__debug__":Str))=false:=by decide) (he:starEach (e :: es) X.env=(false,eval e X.env) :: starEach es X.env:=by rfl) (hpl:(backTo pos (starEach es X.env)).any (·.1)=false:=by rfl):
  PE X (.Call (.Name x p) (e :: es) [] pos) (tMake C sp dvs E t):=by
 intro pins s σ H Q I h
 refine wpAny_Call_Name_kw (ld_glob I hg hm ?_ hdb)
 refine PySem.W.callWith_K (h₀:=X.base) I.ok.mod.kin M.kp (thn (ha pos pins s σ H _ I h) fun us s1 ⟨vs,H1,I1,r,q⟩=>⟨I1.kIn,?_⟩) he hpl
 exact run_make M F hr hb hd hx I1 r q
end
section
variable {X:Cx} {CX:CXT} {k:Nat} {f C:Addr} {fd:FuncData} {ps ks:List Str} {sp:Sp} {E:XK} {x m:Str} {p pos apos kpos:Pos} {e o:Expr} {es:List Expr} {kws:List Keyword} {te ta:TE} {t tk:TA} {nm:Option Str}
variable {g:List Value->List Value->List Value} {gV:List V->List V->List V}
end
structure FnScope(N P:List Str)(sc:Scope):Prop where
 kind:sc.kind=.function
 co:sc.isCoroutine=false
 gen:sc.isGenerator=false
 nd:N.Nodup
 pre:N.take P.length=P
 par:∀ x∈P,sc.names.lookup x=some .local \/ sc.names.lookup x=some .cell
 nofree:∀ y∈sc.names,y.2≠.free
theorem bindL_out{kindOf:Str->Option NameKind}{x:Str}:∀ {binds:List (Str × Value)} {m:Str->Option Value},(∀ v,(x,v)∉binds)->bindL kindOf binds m x=m x
 | [],_,_=>rfl
 | (n,v) :: r,m,h=>by
  unfold bindL
  rw [bindL_out fun w hw=>h w (List.mem_cons_of_mem _ hw)]
  split
  ·have:x≠n:=by rintro rfl;exact h v List.mem_cons_self
   simp [this]
  ·rfl
theorem bindC_out{kindOf:Str->Option NameKind}{x:Str}:∀ {binds:List (Str × Value)} {m:Str->Option Value},(∀ v,(x,v)∉binds)->bindC kindOf binds m x=m x
 | [],_,_=>rfl
 | (n,v) :: r,m,h=>by
  unfold bindC
  rw [bindC_out fun w hw=>h w (List.mem_cons_of_mem _ hw)]
  split
  ·rfl
  ·have:x≠n:=by rintro rfl;exact h v List.mem_cons_self
   simp [this]
theorem bindL_get{kindOf:Str->Option NameKind}{x:Str}{v:Value}:∀ {P:List Str} {vs:List Value} {i:Nat} {m:Str->Option Value},P.Nodup->P[i]?=some x->vs[i]?=some v->kindOf x=some .local->
  bindL kindOf (P.zip vs) m x=some v
 | [],_,_,_,_,h,_,_=>by simp at h
 | _ :: _,[],_,_,_,_,h,_=>by simp at h
 | p :: P,w :: vs,0,m,nd,h1,h2,hk=>by
  simp at h1 h2;subst h1;subst h2
  show bindL kindOf ((p,w) :: P.zip vs) m p=_
  unfold bindL
  rw [bindL_out fun v hv=>(List.nodup_cons.mp nd).1 (List.of_mem_zip hv).1,if_pos hk]
  simp
 | p :: P,w :: vs,i+1,m,nd,h1,h2,hk=>by
  show bindL kindOf ((p,w) :: P.zip vs) m x=_
  unfold bindL
  exact bindL_get (i:=i) (List.nodup_cons.mp nd).2 (by simpa using h1) (by simpa using h2) hk
theorem bindC_get{kindOf:Str->Option NameKind}{x:Str}{v:Value}:∀ {P:List Str} {vs:List Value} {i:Nat} {m:Str->Option Value},P.Nodup->P[i]?=some x->vs[i]?=some v->kindOf x≠some .local->
  bindC kindOf (P.zip vs) m x=some v
 | [],_,_,_,_,h,_,_=>by simp at h
 | _ :: _,[],_,_,_,_,h,_=>by simp at h
 | p :: P,w :: vs,0,m,nd,h1,h2,hk=>by
  simp at h1 h2;subst h1;subst h2
  show bindC kindOf ((p,w) :: P.zip vs) m p=_
  unfold bindC
  rw [bindC_out fun v hv=>(List.nodup_cons.mp nd).1 (List.of_mem_zip hv).1,if_neg hk]
  simp
 | p :: P,w :: vs,i+1,m,nd,h1,h2,hk=>by
  show bindC kindOf ((p,w) :: P.zip vs) m x=_
  unfold bindC
  exact bindC_get (i:=i) (List.nodup_cons.mp nd).2 (by simpa using h1) (by simpa using h2) hk
def start(N:List Str)(vs:List V):St:=vs.map some++List.replicate (N.length - vs.length) none
def cxOf(CX:CXT)(P:Program)(w:World)(K:PySem.W.Frag)(mg:Str->Option Value)(base:Heap)(N:List Str)(qual:Str)(scope:Scope)(f:Addr)(cd:Value)(A:Around)(outer:List Env)(s:Shared)(H:Hp)(E:XK):Cx where
 prog:=P
 w:=w
 K:=K
 mg:=mg
 base:=base
 A:=A.deeper (envOfC qual scope s.heap.objs.size f cd)
 N:=N
 s₀:=s
 H₀:=H
 env:=envOfC qual scope s.heap.objs.size f cd
 outer:=outer
 stack:=envOfC qual scope s.heap.objs.size f cd :: outer
 ex:=[]
 calm:=true
 fn:=fun _=>true
 pn:=[]
 xe:=fun e s'=>wpAny (model P w) (A.deeper (envOfC qual scope s.heap.objs.size f cd)) (leaving (envOfC qual scope s.heap.objs.size f cd) e) (fun _ s''=>CX outer H s E e s'') (fun e' s''=>CX outer H s E e' s'') s'
theorem cell_has{sc:Scope}{n:Nat}{x:Str}(h:sc.names.lookup x=some .cell):∃ c,(cellsFrom n sc.names []).lookup x=some c:=by
 have q:=PySem.W.cellsFrom_some sc.names n [] (.inl h)
 exact Option.isSome_iff_exists.mp q
theorem inv_start{CX:CXT}{P:Program}{w:World}{K:PySem.W.Frag}{mg:Str->Option Value}{base:Heap}{N ps:List Str}{qual:Str}{scope:Scope}{f:Addr}{cd:Value}{A:Around}{outer:List Env}{s s1:Shared}{H:Hp}{E:XK}{us:List Value}{vs:List V}
  (S:FnScope N ps scope) (hd:A.handled=none) (e0:Env0 P w K mg base A outer s H) (hl:vs.length=ps.length) (r:Vals vs us)
  (x:InCallC s s.heap.objs.size (bindL (envOfC qual scope s.heap.objs.size f cd).kindOf (ps.zip us) fun _=>none) (cellsFrom (s.heap.objs.size+1) scope.names []) (bindC (envOfC qual scope s.heap.objs.size f cd).kindOf (ps.zip us) fun _=>none) s1):
  Inv (cxOf CX P w K mg base N qual scope f cd A outer s H E) [] (start N vs) H s1:=by
 have hpl:ps.length <= N.length:=by have:=congrArg List.length S.pre;rw [List.length_take] at this;omega
 obtain ⟨h1,tk,rfl,hk⟩:=x.done
 have noA:∀ b:Addr,b∉(cxOf CX P w K mg base N qual scope f cd A outer s H E).ex:=fun b z=>absurd (show b∈([]:List Addr) from z) (by simp)
 refine ⟨⟨e0.mod,S.kind,rfl,rfl,Nat.le_refl _,fun y z c h1 h2=>?_,fun y hy=>?_,fun y c _ h=>?_,fun _=>hd,Around.frames_deeper e0.frames,.inr ⟨rfl,rfl⟩,fun b z=>absurd z (noA b),e0.bs,e0.bsz,fun b _ _=>noA b,fun b z=>absurd z (noA b),e0.funs,e0.frf⟩,
  rfl,e0.bare,Un.kept hk,⟨_,x.toInCall.ns,fun i y v h1 h2 h3=>?_⟩,fun y c h=>⟨_,x.cell y c h⟩,e0.hok.fresh (Nat.le_refl _),fun y c h=>?_,fun p hp=>absurd (show p∈([]:List (Addr × Obj)) from hp) (by simp),e0.hok.kept hk,?_⟩
 ·exact name_of_addr x.apart (PySem.mem_of_lookup h1) (PySem.mem_of_lookup h2)
 ·have hy:scope.names.lookup y=some .cell \/ scope.names.lookup y=some .free:=hy
  rcases hy with hy | hy
  ·exact cell_has hy
  ·exact absurd rfl (S.nofree _ (PySem.mem_of_lookup hy))
 ·exact Nat.le_of_lt (x.above y c (PySem.mem_of_lookup h))
 ·have hi:i < vs.length:=by
   unfold start at h2
   by_cases hi:i < vs.length
   ·exact hi
   ·rw [List.getElem?_append_right (by simpa using hi)] at h2
    rw [List.getElem?_replicate] at h2
    split at h2<;>cases h2
  have ha:vs[i]?=some v:=by
   unfold start at h2
   rw [List.getElem?_append_left (by simpa using hi),List.getElem?_map] at h2
   cases e:vs[i]? with
   | none=>rw [e] at h2;cases h2
   | some a=>rw [e] at h2;cases h2;rfl
  obtain ⟨u,hu,rv⟩:=r.get ha
  have hp:ps[i]?=some y:=by
   rw [<- S.pre,List.getElem?_take_of_lt (by omega)];exact h1
  have ndP:ps.Nodup:=by rw [<- S.pre];exact S.nd.sublist (List.take_sublist _ _)
  refine ⟨u,rv,?_⟩
  rcases S.par y (List.mem_of_getElem? hp) with k | k
  ·exact .inl ⟨k,bindL_get ndP hp hu k⟩
  ·obtain ⟨c,e⟩:=cell_has (n:=s.heap.objs.size+1) k
   refine .inr ⟨.inl k,c,e,?_⟩
   have q:=x.cell y c e
   rw [bindC_get ndP hp hu (by show scope.names.lookup y≠_;rw [k];decide)] at q
   exact q
 ·exact e0.hok.fresh (Nat.le_of_lt (x.above y c (PySem.mem_of_lookup h)))
 ·unfold start
  show _=N.length
  rw [List.length_append,List.length_map,List.length_replicate]
  omega
theorem fn_of{CX:CXT}{P:Program}{w:World}{K:PySem.W.Frag}{mg:Str->Option Value}{base:Heap}{k:Nat}{f:Addr}{name qual:Str}{params:Arguments}{body:List Stmt}{scope:Scope}{dV kV doc pm cdv ct oc:Value}{an od:Option Addr}
  {osl:Array (Option Value)} {N ps:List Str} {sp:Sp} (lk:K.lookup f=some ⟨oc,od,.func (fnOf name qual params body scope dV kV doc pm an cdv ct),osl⟩) (hcd:codeIn K cdv qual=true) (S:FnScope N ps scope)
  (len:∀ vs H Q E,sp vs H Q E->vs.length=ps.length)
  (hbody:∀ (A:Around) (outer:List Env) (s:Shared) (H:Hp) (vs:List V) (Q:VK) (E:XK),Room k (A.deeper (envOfC qual scope s.heap.objs.size f cdv))->sp vs H Q E->
   ∃ t,PSs (cxOf CX P w K mg base N qual scope f cdv A outer s H E) body t /\ t { nx:=fun _ H'=>Q .non H',rt:=Q } (start N vs) H):
  FnOk P w K mg base CX (k+1) f (fnOf name qual params body scope dV kV doc pm an cdv ct) ps sp:=by
 refine ⟨len,fun A outer s H args us vs Q E hr e0 hb r hsp=>?_⟩
 have hl:=len _ _ _ _ hsp
 have KX:K.In s.heap:=e0.mod.kin.keeps fun b o e=>(e0.bs b o e).1
 have lim:s.heap.NoLimit:=e0.mod.nolimit.keeps fun b o e=>(e0.bs b o e).1
 have hkind:∀ y∈ps.zip us,scope.names.lookup y.1=some .local \/ (scope.names.lookup y.1=some .cell /\ ((cellsFrom (s.heap.objs.size+1) scope.names []).lookup y.1).isSome=true):=fun ⟨n,v⟩ hy=>by
  rcases S.par n (List.of_mem_zip hy).1 with q | q
  ·exact .inl q
  ·exact .inr ⟨q,PySem.W.cellsFrom_some _ _ _ (.inl q)⟩
 refine codeAny_call_function hr.depth (KX _ _ lk) rfl S.co S.gen rfl (PySem.W.codeRec_of KX hcd) (hb _ _ _ _ ?_)
 refine wpAny_newFunctionEnv_cells S.kind hkind fun env he s1 x=>?_
 subst he
 refine ⟨lim.keeps x.toInCall.keep,codeAny_func ?_⟩
 obtain ⟨t,ht,hq⟩:=hbody A outer s H vs Q E (hr.deeper _) hsp
 have I:Inv (cxOf CX P w K mg base N qual scope f cdv A outer s H E) [] (start N vs) H s1:=inv_start S hr.hd e0 hl r x
 refine wpAny_mono (ht [] s1 (start N vs) H _ I hq) (fun fl s' hs=>?_) fun e s' hs=>hs
 have fin:∀ {σ':St} {H':Hp} {v:V} {u:Value},Inv (cxOf CX P w K mg base N qual scope f cdv A outer s H E) [] σ' H' s'->RelV v u->Q v H'->CE outer P w H s Q u s':=
  fun {σ' H' v u} J rv q=>⟨v,H',J.os,J.bare,J.base,J.hok,rv,q⟩
 cases fl with
 | ret u=>
  obtain ⟨v,σ',H',J,rv,q⟩:=hs
  exact fin J rv q
 | next=>
  obtain ⟨σ',H',J,q⟩:=hs
  exact fin (v:=V.non) (u:=Value.none) J rfl q
 | brk=>
  obtain ⟨_,_,_,q⟩:=hs
  exact False.elim q
 | cont=>
  obtain ⟨_,_,_,q⟩:=hs
  exact False.elim q
end L2
namespace L2
open PySem PySem.Spec PyProof.Rows
section
variable {X:Cx} {x:Str} {p pos:Pos} {e:Expr} {es:List Expr} {t:TA} {id T:String} {r:List V->Hp->VK->Prop}
def tCB(r:List V->Hp->VK->Prop)(t:TA):TE:=fun σ H Q=>t σ H fun vs H1=>r vs H1 Q
theorem pe_callB (hc:CallR X (.builtin id) r) (hg:Gl X x) (hm:X.mg x=none) (hv:bootBuiltins x=some (.builtin id)) (ha:PA X (e :: es) t) (hn:x ≠ "__name__":=by decide) (hdb:(x==("__debug__":Str))=false:=by decide)
  (he:starEach (e :: es) X.env=(false,eval e X.env) :: starEach es X.env:=by rfl) (hpl:(backTo pos (starEach es X.env)).any (·.1)=false:=by rfl):PE X (.Call (.Name x p) (e :: es) [] pos) (tCB r t):=by
 intro pins s σ H Q I h
 refine wpAny_Call_Name_kw (ld_blt I hg hm hv ?_ hn hdb)
 exact PyProof.Rows.callWith_builtin1 (thn (ha pos pins s σ H _ I h) fun us s1 ⟨vs,H1,I1,r1,q1⟩=>hc pins s1 σ H1 vs us Q I1 r1 q1) he hpl
theorem pe_callTy (hc:CallR X (.type T) r) (hg:Gl X x) (hm:X.mg x=none) (hv:bootBuiltins x=some (.type T)) (ha:PA X (e :: es) t) (hn:x ≠ "__name__":=by decide) (hdb:(x==("__debug__":Str))=false:=by decide)
  (he:starEach (e :: es) X.env=(false,eval e X.env) :: starEach es X.env:=by rfl) (hpl:(backTo pos (starEach es X.env)).any (·.1)=false:=by rfl):PE X (.Call (.Name x p) (e :: es) [] pos) (tCB r t):=by
 intro pins s σ H Q I h
 refine wpAny_Call_Name_kw (ld_blt I hg hm hv ?_ hn hdb)
 exact PyProof.Rows.callWith_type1 (thn (ha pos pins s σ H _ I h) fun us s1 ⟨vs,H1,I1,r1,q1⟩=>hc pins s1 σ H1 vs us Q I1 r1 q1) he hpl
end
end L2
namespace HT
open PySem PyProof.Rows
section
open PySem.SeqAt
open PySem.AutoSeq1 (wpAny_loadPart')
open PySem.MeetsSeq PySem.MeetsSeq2 PySem.MeetsSeq3
end
section
variable {prog:Program} {w:World} {A:Around} {E:Value->Shared->Prop} {s:Shared}
theorem cat_tup{t b:Addr}{vs ws:List Value}{Q:Value->Shared->Prop}(ht:IsTup s.heap t vs.toArray)(hb:IsTup s.heap b ws.toArray)(hv:vs≠[])
  (h1:ws=[]->Q (.ref t) s) (h2:ws≠[]->Q (.ref s.heap.objs.size) { s with heap:=s.heap.push { cls:=.type "tuple",data:=.seq (vs++ws).toArray } })
  (hsz:vs.length+ws.length <= sizeLine):wpAny (model prog w) A (binaryOp .Add (.ref t) (.ref b)) Q E s:=by
 obtain ⟨⟨cls,dd,data,sl⟩,ho,hc,n,hd⟩:=id ht
 obtain ⟨⟨cls2,dd2,data2,sl2⟩,ho2,hc2,n2,hd2⟩:=id hb
 simp only at hc hd hc2 hd2
 subst hc hd hc2 hd2
 have e:vs.toArray++ws.toArray=(vs++ws).toArray:=by simp
 by_cases hw:ws=[]
 ·exact concat_meets ⟨_,ho,rfl⟩ ⟨_,ho2,rfl⟩ noFill_tuple_add seq_tuple_add PySem.F.slot_tuple_add PySem.F.entry_tuple_add (PySem.F.args_tuple_add_2 _ _)
   (tuple_addW1 t b vs.toArray ws.toArray n n2 dd dd2 sl sl2 (by simpa using hv) (by simp [hw])) ⟨ho,ho2,h1 hw⟩
 ·refine concat_meets ⟨_,ho,rfl⟩ ⟨_,ho2,rfl⟩ noFill_tuple_add seq_tuple_add PySem.F.slot_tuple_add PySem.F.entry_tuple_add (PySem.F.args_tuple_add_2 _ _)
   (tuple_addW2 t b vs.toArray ws.toArray n n2 dd dd2 sl sl2 (by simpa using hv) (by simpa using hw) (by rw [List.size_toArray,List.size_toArray];exact hsz)) ⟨ho,ho2,?_⟩
  rw [e]
  exact h2 hw
def sIx(n d:Nat):Option Int->Nat
 | none=>d
 | some v=>if v < 0 then (v+(n:Int)).toNat else min v.toNat n
theorem sIx_none(n d:Nat):sIx n d none=d:=rfl
theorem sIx_nat(n d k:Nat):sIx n d (some (k:Int))=min k n:=by
 show (if (k:Int) < 0 then ((k:Int)+(n:Int)).toNat else min (k:Int).toNat n)=min k n
 rw [if_neg (by omega),Int.toNat_natCast]
end
end HT
namespace L2
open PySem PySem.Spec PyProof.Rows
abbrev TO:=St->Hp->(Option Int->Hp->Prop)->Prop
def PO(X:Cx)(e:Option Expr)(t:TO):Prop:=
 ∀ (pins:List (Addr × Obj)) (s:Shared) (σ:St) (H:Hp) (Q:Option Int->Hp->Prop),Inv X pins σ H s->t σ H Q->
  wpAny (model X.prog X.w) X.A (evalPart e X.env) (fun u s'=>∃ o H',Inv X pins σ H' s' /\ IsPart u o /\ Q o H') X.xe s
def tNoPart:TO:=fun _ H Q=>Q none H
def tPart(t:TE):TO:=fun σ H Q=>t σ H fun x H1=>∃ i,x=.int i /\ Q (some i) H1
theorem intsAre_of{ns:List Int}:∀ {us:List Value},Vals (ns.map V.int) us->IntsAre us ns:=by
 induction ns with
 | nil=>intro us r;rw [List.map_nil] at r;cases r;exact .nil
 | cons n ns ih=>
  intro us r
  rw [List.map_cons] at r
  cases r with
  | cons r1 r2=>
   obtain ⟨t,e⟩:=r1
   subst e
   exact .cons n t (ih r2)
section
variable {X:Cx} {e:Expr} {te:TE} {lo hi:Option Expr} {tl th:TO} {pos p2:Pos}
theorem po_none:PO X none tNoPart:=by
 intro pins s σ H Q I h
 rw [evalPart_none]
 exact wpAny_pure ⟨none,H,I,.none,h⟩
theorem po_some(h:PE X e te):PO X (some e) (tPart te):=by
 intro pins s σ H Q I hw
 rw [evalPart_some]
 refine thn (h pins s σ H _ I hw) fun u s1 ⟨x,H1,I1,r1,q1⟩=>?_
 obtain ⟨i,rfl,q⟩:=q1
 obtain ⟨t,rfl⟩:=r1
 exact ⟨some i,H1,I1,.int i t,q⟩
def SlR(X:Cx)(r:V->Option Int->Option Int->Hp->VK->Prop):Prop:=
 ∀ (pins:List (Addr × Obj)) (s:Shared) (σ:St) (H:Hp) (x:V) (v vl vu:Value) (lo hi:Option Int) (sl:Addr) (Q:VK),Inv X pins σ H s->RelV x v->s.heap.IsSliceOf sl vl vu .none->IsPart vl lo->IsPart vu hi->r x lo hi H Q->
  ∃ T id,typeLookup (.type T) "__getitem__"=pure (some (.builtin id)) /\ s.TypeIs v T /\ wpAny (model X.prog X.w) X.A (getItem v (.ref sl)) (EP X pins σ Q) X.xe s
def tSl(r:V->Option Int->Option Int->Hp->VK->Prop)(te:TE)(tl th:TO):TE:=fun σ H Q=>te σ H fun x H1=>tl σ H1 fun l H2=>th σ H2 fun u H3=>r x l u H3 Q
theorem pe_slice{r:V->Option Int->Option Int->Hp->VK->Prop}(hr:SlR X r)(he:PE X e te)(hl:PO X lo tl)(hu:PO X hi th):PE X (.Subscript e (.Slice lo hi none p2) pos) (tSl r te tl th):=by
 intro pins s σ H Q I h
 refine Subscript_ (thn (he pins s σ H _ I h) fun v s1 ⟨x,H1,I1,r1,q1⟩=>?_)
 refine wpAny_Slice (thn (hl pins s1 σ H1 _ I1 q1) fun vl s2 ⟨l,H2,I2,pl,q2⟩=>thn (hu pins s2 σ H2 _ I2 q2) fun vu s3 ⟨u,H3,I3,pu,q3⟩=>?_)
 rw [evalPart_none]
 refine wpAny_pure ?_
 have I4:Inv X pins σ H3 { s3 with heap:=s3.heap.push { cls:=.type "slice",data:=.fields #[vl,vu,.none] } }:=I3.kept (t':=s3.toks) fun b ob q=>Heap.get?_push_of_some _ q
 obtain ⟨T,id,hT,ht,hg⟩:=hr pins { s3 with heap:=s3.heap.push { cls:=.type "slice",data:=.fields #[vl,vu,.none] } } σ H3 x v vl vu l u s3.heap.objs.size Q I4 r1 (Heap.IsSliceOf.new ..) pl pu q3
 show wpAny (model X.prog X.w) X.A (subscriptTail e (.Slice lo hi none p2) v (.ref s3.heap.objs.size)) (EP X pins σ Q) X.xe { s3 with heap:=s3.heap.push { cls:=.type "slice",data:=.fields #[vl,vu,.none] } }
 exact tail_any (ops:=[.ref s3.heap.objs.size,v]) ht hT hg (by with_unfolding_all rfl)
def cutV(xs:List V)(lo hi:Option Int):List V:=(xs.drop (HT.sIx xs.length 0 lo)).take (HT.sIx xs.length xs.length hi - HT.sIx xs.length 0 lo)
theorem cutV_length(xs:List V)(lo hi:Option Int):(cutV xs lo hi).length <= xs.length:=by
 unfold cutV
 rw [List.length_take,List.length_drop]
 omega
def rCatT(K:PySem.W.Frag):R2:=fun x y H Q=>∃ a b xs ys,x=.ref a /\ y=.ref b /\ SqT K H a xs /\ SqT K H b ys /\ xs≠[] /\ xs.length+ys.length <= sizeLine /\
 (ys=[]->Q (.ref a) H) /\ (ys≠[]->∀ p,H p=none->Q (.ref p) (upd H p (.tup (xs++ys))))
theorem Vals.nil_iff{xs:List V}{us:List Value}(r:Vals xs us):us=[]↔xs=[]:=by
 cases r with
 | nil=>simp
 | cons _ _=>simp
theorem op_catT:OpR X (binaryOp .Add) (rCatT X.K):=by
 intro pins s σ H x y v u Q I rx ry h
 obtain ⟨a,b,xs,ys,rfl,rfl,ha,hb,hx,hz,q1,q2⟩:=h
 cases rx
 cases ry
 obtain ⟨its,r1,p1,_⟩:=I.tuple ha
 obtain ⟨its2,r2,p2,_⟩:=I.tuple hb
 refine HT.cat_tup p1 p2 (fun z=>hx (r1.nil_iff.mp z)) (fun z=>⟨.ref a,H,I,rfl,q1 (r2.nil_iff.mp z)⟩) (fun z=>?_) (by rw [<- r1.length,<- r2.length];exact hz)
 refine ⟨.ref s.heap.objs.size,_,I.laid (t':=s.toks) (o:=.tup (xs++ys)) (fun b ob q=>Heap.get?_push_of_some _ q) (Nat.le_refl _) ?_,rfl,q2 (fun w=>z (r2.nil_iff.mpr w)) _ (I.hok.fresh (Nat.le_refl _))⟩
 exact ⟨by rw [List.length_append];exact hz,_,r1.append r2,IsTup.new _ _⟩
end
end L2
namespace L2
open PySem PySem.Spec PyProof.Rows
def ixN(n:Nat)(i:Int):Option Nat:=if 0 <= i then (if i < n then some i.toNat else none) else if -(n:Int) <= i then some (i+n).toNat else none
def atI{α:Type}(xs:List α)(i:Int):Option α:=(ixN xs.length i).bind fun j=>xs[j]?
theorem ixN_seq{n:Nat}{i:Int}{j:Nat}(h:ixN n i=some j):seqIndex? i n=some j /\ j < n /\ -(n:Int) <= i /\ i < n:=by
 unfold ixN at h
 by_cases h0:0 <= i
 ·rw [if_pos h0] at h
  by_cases h1:i < n
  ·rw [if_pos h1] at h
   have e:i.toNat=j:=Option.some.inj h
   exact ⟨by rw [seqIndex_of h0 h1,e],by omega,by omega,h1⟩
  ·rw [if_neg h1] at h;cases h
 ·rw [if_neg h0] at h
  by_cases h1:-(n:Int) <= i
  ·rw [if_pos h1] at h
   have e:(i+n).toNat=j:=Option.some.inj h
   exact ⟨by rw [seqIndex_neg (by omega) h1,e],by omega,h1,by omega⟩
  ·rw [if_neg h1] at h;cases h
theorem atI_get{α:Type}{xs:List α}{i:Int}{v:α}(h:atI xs i=some v):∃ j,seqIndex? i xs.length=some j /\ xs[j]?=some v /\ j < xs.length /\ -(xs.length:Int) <= i /\ i < xs.length:=by
 unfold atI at h
 cases e:ixN xs.length i with
 | none=>rw [e] at h;cases h
 | some j=>
  rw [e] at h
  obtain ⟨h1,h2,h3,h4⟩:=ixN_seq e
  exact ⟨j,h1,h,h2,h3,h4⟩
theorem atI_nat{α:Type}{xs:List α}{j:Nat}{v:α}(h:xs[j]?=some v):atI xs (j:Int)=some v:=by
 have hj:j < xs.length:=(List.getElem?_eq_some_iff.mp h).1
 have e:ixN xs.length (j:Int)=some j:=by
  unfold ixN
  rw [if_pos (by omega),if_pos (by omega)];simp
 unfold atI;rw [e];exact h
theorem atI_last{α:Type}(xs:List α)(v:α):atI (xs++[v]) (-1)=some v:=by
 have hl:(xs++[v]).length=xs.length+1:=by simp
 have e:ixN (xs++[v]).length (-1)=some xs.length:=by
  unfold ixN
  rw [hl,if_neg (by decide),if_pos (by omega)]
  congr 1
  omega
 unfold atI
 rw [e]
 show (xs++[v])[xs.length]?=some v
 simp
def PlainIx(b:Expr):Prop:=∀ o i,subscripted b false o i=operate [o,i] (getItem o i)
def IxR(X:Cx)(r:R2):Prop:=
 ∀ (value slice:Expr) (pins:List (Addr × Obj)) (s:Shared) (σ:St) (H:Hp) (x y:V) (v u:Value) (Q:VK),Inv X pins σ H s->RelV x v->RelV y u->r x y H Q->
  subscripted slice false v u=operate [v,u] (getItem v u)->wpAny (model X.prog X.w) X.A (subscriptTail value slice v u) (EP X pins σ Q) X.xe s
def MtR(X:Cx)(id:String)(r:V->List V->Hp->VK->Prop):Prop:=
 ∀ (pins:List (Addr × Obj)) (s:Shared) (σ:St) (H:Hp) (x:V) (xs:List V) (v:Value) (us:List Value) (Q:VK),Inv X pins σ H s->RelV x v->Vals xs us->r x xs H Q->
  wpAny (model X.prog X.w) X.A (call (.builtin id) (v :: us)) (EP X pins σ Q) X.xe s
section
variable {X:Cx} {a b:Expr} {ta tb:TE} {pos:Pos}
theorem IxR.or{r r':R2}(h:IxR X r)(h':IxR X r'):IxR X (fun x y H Q=>r x y H Q \/ r' x y H Q):=by
 intro value slice pins s σ H x y v u Q I rx ry q hs
 rcases q with q | q
 ·exact h value slice pins s σ H x y v u Q I rx ry q hs
 ·exact h' value slice pins s σ H x y v u Q I rx ry q hs
theorem MtR.or{id:String}{r r':V->List V->Hp->VK->Prop}(h:MtR X id r)(h':MtR X id r'):MtR X id (fun x xs H Q=>r x xs H Q \/ r' x xs H Q):=by
 intro pins s σ H x xs v us Q I rx rs q
 rcases q with q | q
 ·exact h pins s σ H x xs v us Q I rx rs q
 ·exact h' pins s σ H x xs v us Q I rx rs q
theorem pe_ix{r:R2}(hr:IxR X r)(ha:PE X a ta)(hb:PE X b tb)(hs:PlainIx b):PE X (.Subscript a b pos) (tOp r ta tb):=by
 intro pins s σ H Q I h
 exact Subscript_ (binT ha hb I h fun v u s2 x y H2 I2 rx ry q=>hr a b pins s2 σ H2 x y v u Q I2 rx ry q (hs _ _))
def rIxL(K:PySem.W.Frag):R2:=fun x y H Q=>∃ p xs i v,x=.ref p /\ y=.int i /\ SqL K H p xs /\ atI xs i=some v /\ Q v H
def rIxT(K:PySem.W.Frag):R2:=fun x y H Q=>∃ p xs i v,x=.ref p /\ y=.int i /\ SqT K H p xs /\ atI xs i=some v /\ Q v H
theorem ix_list:IxR X (rIxL X.K):=by
 intro value slice pins s σ H x y v u Q I rx ry h hs
 obtain ⟨p,xs,i,z,rfl,rfl,hq,he,q⟩:=h
 cases rx
 obtain ⟨t,rfl⟩:=ry
 obtain ⟨its,r,pl,hz⟩:=I.list hq
 obtain ⟨j,h1,h2,h3,h4,h5⟩:=atI_get he
 obtain ⟨w,ew,rw'⟩:=r.get h2
 have hl:=r.length
 have hn:=line63
 have fin:EP X pins σ Q w s:=⟨z,H,I,rw',q⟩
 by_cases h0:0 <= i
 ·have hj:i.toNat=j:=by
   rw [seqIndex_of h0 h5] at h1
   exact Option.some.inj h1
  exact item_listR pl.isList h0 (by omega) (by rw [hj];simpa using ew) fin hs
 ·have hj:(i+(its.toArray.size:Int)).toNat=j:=by
   rw [seqIndex_neg (by omega) h4] at h1
   rw [List.size_toArray,<- hl]
   exact Option.some.inj h1
  exact subscriptTail_builtinR (x:=w) pl.isList.typeIs slot_list_getitem.lookup
   (wpAny_getItem_list_neg (Q:=fun r s'=>r=w /\ EP X pins σ Q r s') pl.isList (by omega) (by rw [List.size_toArray]<;>omega) (by omega) (by rw [hj];simpa using ew) ⟨rfl,fin⟩) hs
theorem ix_tup:IxR X (rIxT X.K):=by
 intro value slice pins s σ H x y v u Q I rx ry h hs
 obtain ⟨p,xs,i,z,rfl,rfl,hq,he,q⟩:=h
 cases rx
 obtain ⟨t,rfl⟩:=ry
 obtain ⟨its,r,pl,hz⟩:=I.tuple hq
 obtain ⟨j,h1,h2,h3,h4,h5⟩:=atI_get he
 obtain ⟨w,ew,rw'⟩:=r.get h2
 have hl:=r.length
 have hn:=line63
 have fin:EP X pins σ Q w s:=⟨z,H,I,rw',q⟩
 exact subscriptTail_builtinR (x:=w) pl.typeIs slot_tuple_getitem.lookup
  (getItem_tuple (j:=j) (Q:=fun r s'=>r=w /\ EP X pins σ Q r s') pl (by omega) (by omega) (by rw [List.size_toArray,<- hl];exact h1) (by simpa using ew) ⟨rfl,fin⟩) hs
theorem mapSeq_set(its:List Value)(n j:Nat)(u:Value):Obj.mapSeq (·.setIfInBounds j u) { cls:=.type "list",data:=.seq its.toArray n }={ cls:=.type "list",data:=.seq (its.set j u).toArray n }:=by
 simp [Obj.mapSeq]
theorem Inv.lst{pins:List (Addr × Obj)}{σ:St}{H:Hp}{s:Shared}{p:Addr}{xs:List V}(I:Inv X pins σ H s)(h:H p=some (.lst xs)):
  ∃ (its:List Value) (n:Nat),Vals xs its /\ s.heap.get? p=some { cls:=.type "list",data:=.seq its.toArray n } /\ xs.length <= sizeLine:=by
 obtain ⟨z,its,n,r,e⟩:=I.hok p _ h
 exact ⟨its,n,r,e,z⟩
theorem Inv.lstUpd{pins:List (Addr × Obj)}{σ:St}{H:Hp}{s:Shared}{p:Addr}{xs ys:List V}{its its':List Value}{n n':Nat}{f:Obj->Obj}(I:Inv X pins σ H s)(h:H p=some (.lst xs))
  (ho:s.heap.get? p=some { cls:=.type "list",data:=.seq its.toArray n }) (hf:f { cls:=.type "list",data:=.seq its.toArray n }={ cls:=.type "list",data:=.seq its'.toArray n' }) (r:Vals ys its') (hz:ys.length <= sizeLine) (t:Nat):
  Inv X pins σ (upd H p (.lst ys)) { s with heap:=s.heap.update p f,toks:=t }:=by
 have e:(s.heap.update p f).get? p=some { cls:=.type "list",data:=.seq its'.toArray n' }:=by
  rw [Heap.get?_update_self f ho (by rw [hf]<;>rfl),hf]
 refine I.write (x:=p) (e:=p) (by rw [h];trivial) (.inl rfl) (fun b u hb q=>(Heap.get?_update_other _ _ (Ne.symm hb)).trans q) ⟨_,e⟩ ?_
 exact ⟨hz,its',n',r,e⟩
def rSetL:V->V->V->Hp->(Hp->Prop)->Prop:=fun o i v H Q=>∃ p xs k j,o=.ref p /\ i=.int k /\ H p=some (.lst xs) /\ ixN xs.length k=some j /\ Q (upd H p (.lst (xs.set j v)))
theorem set_list:PSet X rSetL:=by
 intro pins s σ H o i v ov iv u Q I ro ri rv h
 obtain ⟨p,xs,k,j,rfl,rfl,hp,hj,q⟩:=h
 cases ro
 obtain ⟨t,rfl⟩:=ri
 obtain ⟨its,n,r,ho,hz⟩:=I.lst hp
 obtain ⟨h1,h2,h3,h4⟩:=ixN_seq hj
 have hl:=r.length
 have hn:=line63
 have I':Inv X pins σ (upd H p (.lst (xs.set j v))) { s with heap:=s.heap.update p (Obj.mapSeq (·.setIfInBounds j u)) }:=
  I.lstUpd hp ho (mapSeq_set its n j u) (r.set rv j) (by rw [List.length_set];exact hz) s.toks
 by_cases h0:0 <= k
 ·have hk:k.toNat=j:=by
   rw [seqIndex_of h0 h4] at h1
   exact Option.some.inj h1
  exact PySem.W.ki_setAt ho h0 (by omega) (by rw [List.size_toArray,<- hl];exact h4) (by rw [hk];exact ⟨_,I',q⟩)
 ·have hk:(k+(its.toArray.size:Int)).toNat=j:=by
   rw [seqIndex_neg (by omega) h3] at h1
   rw [List.size_toArray,<- hl]
   exact Option.some.inj h1
  exact PySem.W.ki_setBack ho (by omega) (by rw [List.size_toArray,<- hl];exact h3) (by omega) (by rw [hk];exact ⟨_,I',q⟩)
theorem slice_bounds(lo hi:Option Int)(n:Nat):(sliceBounds lo hi none n).1=((HT.sIx n 0 lo:Nat):Int) /\ (sliceBounds lo hi none n).2.1=((HT.sIx n n hi:Nat):Int) /\ (sliceBounds lo hi none n).2.2=1:=by
 refine ⟨?_,?_,rfl⟩
 ·cases lo with
  | none=>simp [sliceBounds,HT.sIx]
  | some i=>
   simp only [sliceBounds,HT.sIx,Option.getD_none,show (1:Int) > 0 by decide,if_true]
   by_cases h:i < 0
   ·simp only [h,if_true]<;>omega
   ·simp only [h,if_false]<;>omega
 ·cases hi with
  | none=>simp [sliceBounds,HT.sIx]
  | some i=>
   simp only [sliceBounds,HT.sIx,Option.getD_none,show (1:Int) > 0 by decide,if_true]
   by_cases h:i < 0
   ·simp only [h,if_true]<;>omega
   ·simp only [h,if_false]<;>omega
theorem slicePick_cut(its:List Value)(lo hi:Option Int):slicePick its.toArray lo hi none=((its.drop (HT.sIx its.length 0 lo)).take (HT.sIx its.length its.length hi - HT.sIx its.length 0 lo)).toArray:=by
 obtain ⟨h1,h2,h3⟩:=slice_bounds lo hi its.toArray.size
 unfold slicePick
 rw [h1,h2,h3]
 simp only [sliceRange_one,pick_run,List.size_toArray]<;>rfl
def rSlL(K:PySem.W.Frag):V->Option Int->Option Int->Hp->VK->Prop:=fun x lo hi H Q=>∃ a xs,x=.ref a /\ SqL K H a xs /\ ∀ p,H p=none->Q (.ref p) (upd H p (.lst (cutV xs lo hi)))
theorem sl_list:SlR X (rSlL X.K):=by
 intro pins s σ H x v vl vu lo hi sl Q I rx hs pl pu h
 obtain ⟨a,xs,rfl,hx,q⟩:=h
 cases rx
 obtain ⟨its,r,ht,hz⟩:=I.list hx
 have hlen:=r.length
 refine ⟨"list",_,slot_list_getitem.lookup,ht.isList.typeIs,?_⟩
 refine wpAny_getItem_list_slice ht.isList hs pl pu .none (by simp) ?_ (by rw [List.size_toArray]<;>omega)
 rw [slicePick_cut,<- hlen]
 refine ⟨.ref s.heap.objs.size,_,I.laid (t':=s.toks) (o:=.lst (cutV xs lo hi)) (fun b ob q=>Heap.get?_push_of_some _ q) (Nat.le_refl _) ?_,rfl,q _ (I.hok.fresh (Nat.le_refl _))⟩
 exact ⟨Nat.le_trans (cutV_length xs lo hi) hz,_,0,(r.drop (HT.sIx xs.length 0 lo)).take (HT.sIx xs.length xs.length hi - HT.sIx xs.length 0 lo),Heap.get?_push_size _ rfl⟩
theorem call_list_of:CallR X (.type "list") (fun xs H Q=>∃ p ys,xs=[.ref p] /\ (SqL X.K H p ys \/ SqT X.K H p ys) /\ ∀ l,H l=none->Q (.ref l) (upd H l (.lst ys))):=by
 intro pins s σ H xs us Q I r h
 obtain ⟨p,ys,rfl,hq,q⟩:=h
 obtain ⟨u,rfl,rx⟩:=vals1 r
 cases rx
 have fin:∀ (its:List Value),Vals ys its->ys.length <= sizeLine->∀ (h':Heap) (c':Nat),(∀ b o',s.heap.get? b=some o'->h'.get? b=some o')->
   h'.get? s.heap.objs.size=some { cls:=.type "list",dict:=none,data:=.seq its.toArray c',slots:=#[] }->EP X pins σ Q (.ref s.heap.objs.size) { s with heap:=h' }:=fun its r' hz h' c' kp e=>
  ⟨.ref s.heap.objs.size,_,I.laid (t':=s.toks) kp (Nat.le_refl _) (show ObjOk X.prog X.w _ h' _ (.lst ys) from ⟨hz,its,c',r',e⟩),rfl,q _ (I.hok.fresh (Nat.le_refl _))⟩
 rcases hq with hq | hq
 ·obtain ⟨its,r',pl,hz⟩:=I.list hq
  have hlen:=r'.length
  obtain ⟨o,ho,hc,n,hd⟩:=pl.isList
  exact call_list_seq p (.inl rfl) ho hc hd (fun h' c' kp e=>fin its r' hz h' c' kp e) (by simp only [List.size_toArray]<;>omega)
 ·obtain ⟨its,r',pl,hz⟩:=I.tuple hq
  have hlen:=r'.length
  obtain ⟨o,ho,hc,n,hd⟩:=pl
  exact call_list_seq p (.inr rfl) ho hc hd (fun h' c' kp e=>fin its r' hz h' c' kp e) (by simp only [List.size_toArray]<;>omega)
def tyV(K:PySem.W.Frag)(T:String)(x:V)(H:Hp):Prop:=match x with
 | .str _=>T = "str"
 | .int _=>T = "int"
 | .ref p=>(T = "list" /\ ∃ xs,SqL K H p xs) \/ (T = "tuple" /\ ∃ o,K.lookup p=some o /\ o.cls=.type "tuple" /\ o.dict=none) \/
   (T = "dict" /\ ((∃ kvs,H p=some (.dK kvs)) \/ ∃ kvs,H p=some (.dT kvs))) \/ (T = "set" /\ ∃ S n,H p=some (.set S n))
 | _=>False
theorem tyV_is{pins:List (Addr × Obj)}{σ:St}{H:Hp}{s:Shared}{T:String}{x:V}{v:Value}(I:Inv X pins σ H s)(r:RelV x v)(ty:tyV X.K T x H):
  s.TypeIs v T /\ ∀ a,v=.ref a->∃ ob,s.heap.get? a=some ob /\ ob.dict=none:=by
 cases x with
 | str z=>
  obtain ⟨t,rfl⟩:=r
  cases (show T = "str" from ty)
  exact ⟨typeIs_str s z t,fun _ e=>nomatch e⟩
 | int i=>
  obtain ⟨t,rfl⟩:=r
  cases (show T = "int" from ty)
  exact ⟨typeIs_int s i t,fun _ e=>nomatch e⟩
 | ref p=>
  cases r
  rcases ty with ⟨rfl,xs,hq⟩ | ⟨rfl,o,hk,hc,hd⟩ | ⟨rfl,hk⟩ | ⟨rfl,S,n,hk⟩
  ·obtain ⟨its,_,pl,_⟩:=I.list hq
   refine ⟨pl.isList.typeIs,fun a e=>?_⟩
   cases e
   obtain ⟨o,n,e,c,hd,_⟩:=pl
   exact ⟨o,e,hd⟩
  ·refine ⟨⟨o,I.kIn p o hk,hc⟩,fun a e=>?_⟩
   cases e
   exact ⟨o,I.kIn _ o hk,hd⟩
  ·have z:∃ o,s.heap.get? p=some o /\ o.ExactDict:=by
    rcases hk with ⟨kvs,hk⟩ | ⟨kvs,hk⟩
    ·obtain ⟨_,_,_,_,o,_,_,e,ex,_⟩:=I.hok p _ hk
     exact ⟨o,e,ex⟩
    ·obtain ⟨_,_,_,_,o,_,_,e,ex,_⟩:=I.hok p _ hk
     exact ⟨o,e,ex⟩
   obtain ⟨o,e,ex⟩:=z
   refine ⟨⟨o,e,ex.1⟩,fun a e2=>?_⟩
   cases e2
   exact ⟨o,e,ex.2.1⟩
  ·obtain ⟨o,_,_,_,e,ex,_⟩:=I.hok p _ hk
   refine ⟨⟨o,e,ex.1⟩,fun a e2=>?_⟩
   cases e2
   exact ⟨o,e,ex.2.1⟩
 | _=>exact False.elim ty
def tBM0(K:PySem.W.Frag)(T:String)(r:V->List V->Hp->VK->Prop)(to:TE):TE:=fun σ H Q=>to σ H fun x H1=>tyV K T x H1 /\ r x [] H1 Q
def tBM(K:PySem.W.Frag)(T:String)(r:V->List V->Hp->VK->Prop)(to:TE)(t:TA):TE:=fun σ H Q=>to σ H fun x H1=>tyV K T x H1 /\ t σ H1 fun xs H2=>r x xs H2 Q
variable {o e:Expr} {es:List Expr} {to:TE} {t:TA} {name:Str} {apos cpos:Pos} {T id:String} {r:V->List V->Hp->VK->Prop}
theorem pe_bm0 (pa:PlainAttrs T) (slot:Slot T name id) (hty:typeOf (.builtin id)=pure (.type "method_descriptor")) (hm:MtR X id r) (ho:PE X o to)
  (hbase:attributeBase o name X.env (eval o X.env)=eval o X.env:=by rfl) (hline:(apos.endLine==cpos.line)=true:=by rfl):PE X (.Call (.Attribute o name apos) [] [] cpos) (tBM0 X.K T r to):=by
 intro pins s σ H Q I h
 refine wpAny_Call_method0_late hbase hline (thn (ho pins s σ H _ I h) fun v s1 ⟨x,H1,I1,r1,ty,q1⟩=>?_)
 obtain ⟨h1,h2⟩:=tyV_is I1 r1 ty
 exact ⟨T,id,pa,slot,hty,h1,h2,Calls.callWith_builtin rfl (PySem.evalArgs_none (hm pins s1 σ H1 x [] v [] Q I1 r1 .nil q1))⟩
theorem pe_bm (pa:PlainAttrs T) (slot:Slot T name id) (hty:typeOf (.builtin id)=pure (.type "method_descriptor")) (hm:MtR X id r) (ho:PE X o to) (ha:PA X (e :: es) t)
  (hbase:attributeBase o name X.env (eval o X.env)=eval o X.env:=by rfl)
  (hfew:((backTo cpos (starEach (e :: es) X.env)).all (fun x=>!x.1)&&(backToKw cpos (keywordEach [] X.env)).all (fun x=>x.1.isSome)
   && decide ((e :: es).length+([]:List Keyword).length+(if ([]:List Keyword).isEmpty then 0 else 1) < 30))=true:=by rfl)
  (hline:(apos.endLine==cpos.line)=true:=by rfl) (hs:starEach (e :: es) X.env=(false,eval e X.env) :: starEach es X.env:=by rfl) (hplain:(backTo cpos (starEach es X.env)).any (·.1)=false:=by rfl):
  PE X (.Call (.Attribute o name apos) (e :: es) [] cpos) (tBM X.K T r to t):=by
 intro pins s σ H Q I h
 refine wpAny_Call_method_late hbase hfew hline rfl (thn (ho pins s σ H _ I h) fun v s1 ⟨x,H1,I1,r1,ty,q1⟩=>?_)
 obtain ⟨h1,h2⟩:=tyV_is I1 r1 ty
 refine ⟨T,id,pa,slot,hty,h1,h2,?_⟩
 have hA:=ha cpos pins s1 σ H1 _ I1 q1
 rw [hs] at hA ⊢
 refine Calls.callWith_builtin (by show (false || (backTo cpos (starEach es X.env)).any (·.1))=false;rw [hplain]<;>rfl) (Calls.evalArgs_plain ?_)
 exact thn hA fun us s2 ⟨vs,H2,I2,r2,q2⟩=>hm pins s2 σ H2 x vs v us Q I2 r1 r2 q2
end
end L2
namespace L2
open PySem PySem.Spec PyProof.Rows
def MtM(X:Cx)(id:String)(r:V->List V->Hp->VK->Prop):Prop:=
 ∀ (pins:List (Addr × Obj)) (s:Shared) (σ:St) (H:Hp) (x:V) (xs:List V) (v:Value) (us:List Value) (Q:VK),Inv X pins σ H s->RelV x v->Vals xs us->r x xs H Q->
  wpAny (model X.prog X.w) X.A (call (.builtin id) (v :: us)) (EP X pins σ Q) X.xe s
theorem Vals.one:∀ {x:V} {us:List Value},Vals [x] us->∃ u,us=[u] /\ RelV x u
 | _,_,.cons r .nil=>⟨_,rfl,r⟩
theorem Vals.zero:∀ {us:List Value},Vals [] us->us=[]
 | _,.nil=>rfl
theorem Vals.dropLast{xs:List V}{us:List Value}(h:Vals xs us):Vals xs.dropLast us.dropLast:=by
 induction h with
 | nil=>exact .nil
 | cons r t ih=>
  cases t with
  | nil=>exact .nil
  | cons q t'=>exact .cons r ih
theorem Vals.eraseIdx:∀ {xs:List V} {us:List Value} (i:Nat),Vals xs us->Vals (xs.eraseIdx i) (us.eraseIdx i)
 | _,_,_,.nil=>.nil
 | _,_,0,.cons _ t=>t
 | _,_,i+1,.cons r t=>.cons r (Vals.eraseIdx i t)
theorem Vals.reverse{xs:List V}{us:List Value}(h:Vals xs us):Vals xs.reverse us.reverse:=by
 induction h with
 | nil=>exact .nil
 | cons r t ih=>rw [List.reverse_cons,List.reverse_cons];exact Vals.append ih (.cons r .nil)
theorem Vals.rep{xs:List V}{us:List Value}(h:Vals xs us):∀ k:Nat,Vals (List.replicate k xs).flatten (List.replicate k us).flatten
 | 0=>.nil
 | k+1=>by
  rw [List.replicate_succ,List.replicate_succ,List.flatten_cons,List.flatten_cons]
  exact Vals.append h (Vals.rep h k)
theorem erase_last{α:Type}(l:List α):l.eraseIdx (l.length - 1)=l.dropLast:=by
 induction l with
 | nil=>rfl
 | cons a r ih=>
  cases r with
  | nil=>rfl
  | cons b r=>
   have e:(a :: b :: r).length - 1=((b :: r).length - 1)+1:=by
    have h1:(a :: b :: r).length=r.length+2:=rfl
    have h2:(b :: r).length=r.length+1:=rfl
    omega
   rw [e,List.eraseIdx_cons_succ,ih]
   all_goals rfl
theorem len_erase{α:Type}:∀ (l:List α) (i:Nat),(l.eraseIdx i).length <= l.length
 | [],_=>Nat.le_refl _
 | _ :: _,0=>Nat.le_succ _
 | _ :: r,i+1=>Nat.succ_le_succ (len_erase r i)
theorem foldl_rep(its:List Value):∀ (k:Nat) (acc:List Value),
  List.foldl (fun x1 x2=>x1++x2) acc.toArray (List.replicate k its.toArray)=(acc++(List.replicate k its).flatten).toArray
 | 0,acc=>by simp
 | k+1,acc=>by
  have e:acc.toArray++its.toArray=(acc++its).toArray:=by simp
  have e2:(acc++its)++(List.replicate k its).flatten=acc++(List.replicate (k+1) its).flatten:=by
   rw [List.replicate_succ,List.flatten_cons,List.append_assoc]
  rw [<- e2,<- foldl_rep its k (acc++its),<- e,List.replicate_succ,List.foldl_cons]
section
variable {X:Cx} {pins:List (Addr × Obj)} {σ:St} {H:Hp} {s:Shared} {l b:Addr} {xs ys zs:List V}
theorem Inv.lset{its its':List Value}{n:Nat}{f:Array Value->Array Value}{t':Nat}(I:Inv X pins σ H s)(hH:H l=some (.lst xs))
  (e:s.heap.get? l=some { cls:=.type "list",data:=.seq its.toArray n }) (hf:f its.toArray=its'.toArray) (hv:Vals ys its') (hz:ys.length <= sizeLine):
  Inv X pins σ (upd H l (.lst ys)) { s with heap:=s.heap.update l (Obj.mapSeq f),toks:=t' }:=by
 have q:=PySem.IsL.update e f
 rw [hf] at q
 refine I.write (x:=l) (e:=l) (by rw [hH];exact trivial) (.inl rfl) (fun b' u hb hu=>(Heap.get?_update_other s.heap (Obj.mapSeq f) (Ne.symm hb)).trans hu) ⟨_,q⟩ ?_
 exact ⟨hz,its',_,hv,q⟩
theorem Inv.lnew{its:List Value}{t':Nat}(I:Inv X pins σ H s)(hv:Vals ys its)(hz:ys.length <= sizeLine):
  Inv X pins σ (upd H s.heap.objs.size (.lst ys)) { s with heap:=s.heap.push { cls:=.type "list",data:=.seq its.toArray },toks:=t' }:=
 I.laid (fun _ _ q=>Heap.get?_push_of_some _ q) (Nat.le_refl _) ⟨hz,its,0,hv,Heap.get?_push_size _ rfl⟩
theorem Inv.fresh(I:Inv X pins σ H s):H s.heap.objs.size=none:=I.hok.fresh (Nat.le_refl _)
theorem Inv.lstM(I:Inv X pins σ H s)(hH:H l=some (.lst xs)):xs.length <= sizeLine /\ ∃ (its:List Value) (n:Nat),Vals xs its /\ xs.length=its.length /\ s.heap.get? l=some { cls:=.type "list",data:=.seq its.toArray n }:=by
 obtain ⟨z,its,n,r,e⟩:=I.hok l _ hH
 exact ⟨z,its,n,r,r.length,e⟩
theorem notLongL{n:Nat}(h:n <= sizeLine):Builtin.List.listTooLong n=false:=by
 unfold Builtin.List.listTooLong
 exact decide_eq_false (by omega)
end
section
variable {X:Cx}
def rAppend:V->List V->Hp->VK->Prop:=fun x vs H Q=>∃ l xs y,x=.ref l /\ vs=[y] /\ H l=some (.lst xs) /\ xs.length < sizeLine /\ Q .non (upd H l (.lst (xs++[y])))
theorem mt_append:MtM X "list.append" rAppend:=by
 intro pins s σ H x vs v us Q I rx rv h
 obtain ⟨l,xs,y,rfl,rfl,hH,hz,q⟩:=h
 cases rx
 obtain ⟨u,rfl,ru⟩:=rv.one
 obtain ⟨z,its,n,r,hl,e⟩:=I.lstM hH
 refine call_meets F.slot_list_append ⟨_,e,rfl⟩ F.entry_list_append (F.args_list_append_2 _ _) (PySem.list_append l its.toArray n u (by rw [List.size_toArray];omega)) ⟨e,?_⟩
 refine ⟨.non,_,I.lset (its':=its++[u]) hH e (by simp) (r.append (.cons ru .nil)) ?_,rfl,q⟩
 rw [List.length_append,List.length_singleton]
 omega
def rPop:V->List V->Hp->VK->Prop:=fun x vs H Q=>∃ l xs y,x=.ref l /\ vs=[] /\ H l=some (.lst xs) /\ xs[xs.length - 1]?=some y /\ Q y (upd H l (.lst xs.dropLast))
theorem mt_pop:MtM X "list.pop" rPop:=by
 intro pins s σ H x vs v us Q I rx rv h
 obtain ⟨l,xs,y,rfl,rfl,hH,hy,q⟩:=h
 cases rx
 have hus:=rv.zero
 subst hus
 obtain ⟨z,its,n,r,hl,e⟩:=I.lstM hH
 obtain ⟨u,hu,ru⟩:=r.get hy
 have hy':its.toArray[its.toArray.size - 1]?=some u:=by
  show its.toArray[its.length - 1]?=some u
  rw [<- Array.getElem?_toList,<- hl]
  exact hu
 refine call_meets F.slot_list_pop ⟨_,e,rfl⟩ F.entry_list_pop (F.args_list_pop_1 _) (MeetsSeq.list_pop_last l its.toArray n u hy' (by rw [List.size_toArray];omega)) ⟨e,?_⟩
 refine ⟨y,_,I.lset (its':=its.dropLast) hH e ?_ r.dropLast ?_,ru,q⟩
 ·show its.toArray.eraseIdxIfInBounds (its.toArray.size - 1)=its.dropLast.toArray
  rw [List.size_toArray,List.eraseIdxIfInBounds_toArray,erase_last]
 ·rw [List.length_dropLast]
  omega
def rPopAt:V->List V->Hp->VK->Prop:=fun x vs H Q=>∃ l xs i k y,x=.ref l /\ vs=[.int i] /\ H l=some (.lst xs) /\ -(2 ^ 63) <= i /\ i < 2 ^ 63 /\ seqIndex? i xs.length=some k /\ xs[k]?=some y /\ Q y (upd H l (.lst (xs.eraseIdx k)))
theorem mt_popAt:MtM X "list.pop" rPopAt:=by
 intro pins s σ H x vs v us Q I rx rv h
 obtain ⟨l,xs,i,k,y,rfl,rfl,hH,h1,h2,hk,hy,q⟩:=h
 cases rx
 obtain ⟨u,rfl,ru⟩:=rv.one
 obtain ⟨t,rfl⟩:=ru
 obtain ⟨z,its,n,r,hl,e⟩:=I.lstM hH
 obtain ⟨w,hw,rw'⟩:=r.get hy
 refine call_meets F.slot_list_pop ⟨_,e,rfl⟩ F.entry_list_pop (F.args_list_pop_2 _ _)
  (MeetsSeq.list_pop_at l its.toArray n i t k w (fitsIndex_both h1 h2) (by rw [List.size_toArray,<- hl];exact hk) (by rw [<- Array.getElem?_toList];exact hw) (by rw [List.size_toArray];omega)) ⟨e,?_⟩
 refine ⟨y,_,I.lset (its':=its.eraseIdx k) hH e ?_ (r.eraseIdx k) ?_,rw',q⟩
 ·show its.toArray.eraseIdxIfInBounds k=(its.eraseIdx k).toArray
  rw [List.eraseIdxIfInBounds_toArray]
 ·have:=len_erase xs k
  omega
def rCat:R2:=fun x y H Q=>∃ l b xs zs,x=.ref l /\ y=.ref b /\ H l=some (.lst xs) /\ H b=some (.lst zs) /\ xs.length+zs.length <= sizeLine /\ ∀ p,H p=none->Q (.ref p) (upd H p (.lst (xs++zs)))
theorem op_cat:OpR X (binaryOp .Add) rCat:=by
 intro pins s σ H x y v u Q I rx ry h
 obtain ⟨l,b,xs,zs,rfl,rfl,hH,hB,hz,q⟩:=h
 cases rx
 cases ry
 obtain ⟨z,its,n,r,hl,e⟩:=I.lstM hH
 obtain ⟨z2,its2,n2,r2,hl2,e2⟩:=I.lstM hB
 refine PySem.P.add_list e e2 ?_ (by rw [List.size_toArray,List.size_toArray];omega)
 have ea:its.toArray++its2.toArray=(its++its2).toArray:=by simp
 rw [ea]
 exact ⟨.ref _,_,I.lnew (t':=s.toks) (r.append r2) (by rw [List.length_append];omega),rfl,q _ I.fresh⟩
def rRep:R2:=fun x y H Q=>∃ l k xs,x=.ref l /\ y=.int k /\ H l=some (.lst xs) /\ -(2 ^ 63) <= k /\ k < 2 ^ 63 /\ xs.length*k.toNat <= sizeLine /\
 ∀ p,H p=none->Q (.ref p) (upd H p (.lst (List.replicate k.toNat xs).flatten))
theorem len_rep{α:Type}(xs:List α)(k:Nat):(List.replicate k xs).flatten.length=k*xs.length:=by
 induction k with
 | zero=>simp
 | succ k ih=>rw [List.replicate_succ,List.flatten_cons,List.length_append,ih,Nat.succ_mul,Nat.add_comm]
theorem op_rep:OpR X (binaryOp .Mult) rRep:=by
 intro pins s σ H x y v u Q I rx ry h
 obtain ⟨l,k,xs,rfl,rfl,hH,h1,h2,hz,q⟩:=h
 cases rx
 obtain ⟨t,rfl⟩:=ry
 obtain ⟨z,its,n,r,hl,e⟩:=I.lstM hH
 have hlen:its.toArray.size*k.toNat <= sizeLine:=by rw [List.size_toArray,<- hl];exact hz
 have hcap:¬ its.toArray.size*k.toNat > (2 ^ 63 - 1) / 8:=by
  have:(sizeLine:Nat) <= (2 ^ 63 - 1) / 8:=by decide
  omega
 have hfit:¬ (!Builtin.List.listFitsIndex k)=true:=by
  rw [fitsIndex_both h1 h2]
  exact Bool.false_ne_true
 have hlong:¬ Builtin.List.listTooLong (its.toArray.size*k.toNat)=true:=by
  rw [notLongL hlen]
  exact Bool.false_ne_true
 have hnew:List.foldl (fun x1 x2=>x1++x2) #[] (List.replicate (if its.toArray.isEmpty=true then 0 else k.toNat) its.toArray)=(List.replicate k.toNat its).flatten.toArray:=by
  have f0:∀ m:Nat,List.foldl (fun x1 x2=>x1++x2) #[] (List.replicate m its.toArray)=(List.replicate m its).flatten.toArray:=fun m=>by
   have:=foldl_rep its m []
   rw [List.nil_append] at this
   exact this
  rw [f0]
  cases its with
  | nil=>simp
  | cons a r'=>rw [if_neg (by simp)]
 refine wpAny_binaryOp_repeat_ref (T := "list") (U := "int") (by decide) ⟨_,e,rfl⟩ (fun s'=>typeIs_int s' k t) noFill_list_mul F.fills_int_mul F.slot_int_rmul repeat_list F.slot_int_index.lookup
  (call_meets F.slot_int_rmul (typeIs_int s k t) F.entry_int_rmul (F.args_int_rmul_2 _ _) (int___rmul___int_list k t l its.toArray n)
   ⟨e,rfl,⟨_,e,rfl⟩,call_meets F.slot_list_mul ⟨_,e,rfl⟩ F.entry_list_mul (F.args_list_mul_2 _ _) (AutoListH.list___mul___list_int_3 l its.toArray n k t hfit hcap hlong) ⟨e,?_⟩⟩)
 rw [hnew]
 exact ⟨.ref _,_,I.lnew (t':=s.toks) (r.rep k.toNat) (by rw [len_rep,Nat.mul_comm];exact hz),rfl,q _ I.fresh⟩
end
section
variable {prog:Program} {w:World} {A:Around} {E:Value->Shared->Prop} {s:Shared}
set_option maxRecDepth 100000 in
end
section
variable {X:Cx}
end
end L2
namespace Att
open PySem PySem.W PySem.Calls PyProof.Rows
theorem ints_of_wellAll{P:Params}{h:Heap}:∀ (ns:List Int) (vs:List Value),WellAll P h vs (ns.map WData.int)->IntsAre vs ns:=by
 intro ns
 induction ns with
 | nil=>
  intro vs w
  rw [List.map_nil] at w
  cases w
  exact .nil
 | cons n ns ih=>
  intro vs w
  rw [List.map_cons] at w
  cases w with
  | cons a b=>
   cases a
   exact .cons _ _ (ih _ b)
theorem script_of{l:OpenLaw}{n:Nat}(hn:l.most=some n){P:Params}{h:Heap}{args:List WData}{vals:List Value}
  (hpre:l.row.toRowW.claim.pre args=true) (hwl:WellAll P h vals args):
  ∃ a vs ns,vals=[Value.ref a] /\ args=[WData.list (ns.map WData.int)] /\ h.get? a=some { cls:=.type "list",data:=.seq vs.toArray } /\ IntsAre vs ns /\ ns.length <= n:=by
 have hsh:WShape.hasAll [] args [.list .int]=true:=(pre_splitW hpre).1
 have hc:l.pre.holds [] { args:=args }=true:=(pre_splitW hpre).2
 obtain ⟨d,r,rfl,h1,h2⟩:=hasAllW_cons hsh
 obtain rfl:=hasAllW_nil h2
 obtain ⟨xs,rfl,h3⟩:=hasW_list h1
 obtain ⟨ns,rfl⟩:=items_int h3
 have hlen:ns.length <= n:=by
  unfold OpenLaw.pre at hc
  have h4:(WTm.not (.lt (.lit (.int (n:Int))) (.len (.arg 0)))).holds [] { args:=[.list (ns.map .int)] }=true:=by
   have h4:=(holds_andW hc).1
   rw [hn] at h4
   exact h4
  have h5:=condW_of h4 (w_not (w_lt w_lit (w_len_list (w_arg rfl))))
  rw [List.length_map] at h5
  refine Nat.le_of_not_lt fun q=>?_
  have q':(n:Int) < ((ns.length:Nat):Int):=by omega
  first
   | (rw [decide_eq_true q'] at h5;exact absurd h5 (by decide))
   | (simp at h5;omega)
 cases hwl with
 | cons w1 w2=>
  cases w2
  cases w1 with
  | list ho hall=>exact ⟨_,_,ns,rfl,rfl,ho,ints_of_wellAll ns _ hall,hlen⟩
theorem post_true(l:OpenLaw)(args:List WData):l.row.toRowW.claim.post args (.bool true) args=true:=
 postW_of (r:=l.row.toRowW) (X:=(true==true))
  (show WShape.has [] (.bool true) .bool=true by first | rfl | decide | simp [WShape.has,WShape.arms,WShape.armsAll])
  (show (WTm.eq .res (.lit (.bool true))).value [] { args:=args,res:=some (.bool true),after:=args }=some (.bool (true==true)) from w_eq_bool (w_res rfl) w_lit) rfl
theorem attach_call{l:OpenLaw}{n:Nat}{q:Program}{loose:List Str}{XP:(Str->Option Value)->Heap->Prop}{YP:World->Heap->Prop}{d:DefRec}
  (hn:l.most=some n) (hdf:d.params.defaults=[])
  (call:∀ (w:World) (s₀ s₁:Shared) (mg mb:Str->Option Value) (fa:Addr) (o:Obj) (pm cd doc:Value) (a:Addr) (vs:List Value) (ns:List Int),
   Ground q loose [] XP w s₀ mg mb s₁.heap->YP w s₁.heap->
   s₁.heap.get? fa=some o->o.data=.func (docDef d.name d.params d.body d.scope pm cd doc)->s₁.heap.CodeRec cd d.name->mg d.name=some (.ref fa)->
   s₁.heap.get? a=some { cls:=.type "list",data:=.seq vs.toArray }->IntsAre vs ns->ns.length <= n->s₁.gens=#[]->
   codeAny (model l.prog w) callerA (.call (.ref fa) ⟨[.ref a],[]⟩) (fun r s'=>r=.ok (.ret (.bool true)) /\ OldK s₁.heap s'.heap /\ s'.os=s₁.os /\ AllBare s'.gens) s₁):
  WalkO q loose XP YP l.row.toRowW d [] (fun f vs=>PySem.call f vs):=by
 intro w s₀ s₁ mg mb G Y fa o pm cd doc dV kV ho hd hcd hD hmg hg args vals as hpre hlay hrd hwl hlo
 obtain rfl:dV=.none:=Dflts.none hD hdf
 obtain rfl:kV=.none:=Dflts.noKw hD
 obtain ⟨a,vs,ns,rfl,rfl,hobj,hints,hlen⟩:=script_of hn hpre hwl
 refine enter_call (codeAny_mono (call w s₀ s₁ mg mb fa o pm cd doc a vs ns G Y ho (fd_plain hd) hcd hmg hobj hints hlen hg) fun r s' hq=>?_)
 obtain ⟨rfl,h2,h3,h4⟩:=hq
 exact ⟨.inl ⟨.bool true,.bool true,[],rfl,fun _=>rfl,.bool true,post_true l _,fun _=>⟨List.Pairwise.nil,fun _ hm=>(nomatch hm)⟩⟩,h2,h3,h4⟩
section
variable {prog:Program} {w:World} {A:Around} {E:Value->Shared->Prop} {s:Shared} {K:Frag}
end
end Att
namespace L2
open PySem PySem.Spec PyProof.Rows
theorem vals_ints:∀ {vs:List Value} {ns:List Int},IntsAre vs ns->Vals (ns.map V.int) vs
 | _,_,.nil=>.nil
 | _,_,.cons n t h=>.cons ⟨t,rfl⟩ (vals_ints h)
end L2
namespace L2
open PySem PySem.Spec PyProof.Rows
def inClass(s:Stmt)(j:Nat):Stmt:=match s with
 | .ClassDef _ _ _ body _ _ _ _ _ _ _=>body.getD j (.Pass ⟨0,0,0,0⟩)
 | _=>.Pass ⟨0,0,0,0⟩
def defArgs(s:Stmt):Arguments:=match s with
 | .FunctionDef _ a _ _ _ _ _ _ _ _=>a
 | _=>{ posonlyargs:=[],args:=[],vararg:=none,kwonlyargs:=[],kw_defaults:=[],kwarg:=none,defaults:=[] }
def defBody(s:Stmt):List Stmt:=match s with
 | .FunctionDef _ _ b _ _ _ _ _ _ _=>b
 | _=>[]
def defScope(s:Stmt):Scope:=match s with
 | .FunctionDef _ _ _ _ _ _ sc _ _ _=>sc
 | _=>{ kind:=.function,names:=[],isGenerator:=false,isCoroutine:=false }
abbrev CX0:CXT:=fun _ _ _ _ _ _=>False
abbrev E0:XK:=fun _ _ _=>False
theorem pass0{X:Cx}:Passes CX0 X E0:=fun _ _ _ _ _ _ _ h=>h.elim
structure Fun(K:PySem.W.Frag)(x qual:Str)(st:Stmt)(f:Addr)(fd:FuncData):Prop where
 ex:∃ (oc:Value) (od:Option Addr) (kV doc pm:Value) (an:Option Addr) (cdv ct:Value) (osl:Array (Option Value)),
  fd=fnOf x qual (defArgs st) (defBody st) (defScope st) .none kV doc pm an cdv ct /\ K.lookup f=some ⟨oc,od,.func fd,osl⟩ /\ codeIn K cdv qual=true
 kp:keepIn K (.ref f)=true
section
variable {P:Program} {w:World} {K:PySem.W.Frag} {mg:Str->Option Value} {base:Heap}
theorem Fun.ok{x qual:Str}{st:Stmt}{f:Addr}{fd:FuncData}{N ps:List Str}{k:Nat}{sp:Sp}(F:Fun K x qual st f fd)(S:FnScope N ps (defScope st))(len:∀ vs H Q E,sp vs H Q E->vs.length=ps.length)
  (hbody:∀ (cdv:Value) (A:Around) (outer:List Env) (s:Shared) (H:Hp) (vs:List V) (Q:VK) (E:XK),Room k (A.deeper (envOfC qual (defScope st) s.heap.objs.size f cdv))->sp vs H Q E->
   ∃ t,PSs (cxOf CX0 P w K mg base N qual (defScope st) f cdv A outer s H E).nox (defBody st) t /\ t { nx:=fun _ H'=>Q .non H',rt:=Q } (start N vs) H):FnOk P w K mg base CX0 (k+1) f fd ps sp:=by
 obtain ⟨oc,od,kV,doc,pm,an,cdv,ct,osl,rfl,lk,hcd⟩:=F.ex
 refine fn_of lk hcd S len fun A outer s H vs Q E hr hsp=>?_
 obtain ⟨t,h,q⟩:=hbody cdv A outer s H vs Q E hr hsp
 exact ⟨t,h.nox,q⟩
theorem Fun.binds{x qual:Str}{st:Stmt}{f:Addr}{fd:FuncData}{ps:List Str}(F:Fun K x qual st f fd)
  (h:∀ (kV doc pm:Value) (an:Option Addr) (cdv ct:Value) (us:List Value),us.length=ps.length->bindArgs (fnOf x qual (defArgs st) (defBody st) (defScope st) .none kV doc pm an cdv ct) ⟨us,[]⟩=pure (ps.zip us)):Binds K fd ps []:=by
 obtain ⟨oc,od,kV,doc,pm,an,cdv,ct,osl,rfl,lk,hcd⟩:=F.ex
 exact .all (h kV doc pm an cdv ct)
theorem fun_mk{x qual:Str}{st:Stmt}{f:Addr}{oc:Value}{od an:Option Addr}{osl:Array (Option Value)}{kV doc pm cdv ct:Value}(l:K.lookup f=some ⟨oc,od,.func (fnOf x qual (defArgs st) (defBody st) (defScope st) .none kV doc pm an cdv ct),osl⟩)
  (c:codeIn K cdv qual=true) (k:keepIn K (.ref f)=true):Fun K x qual st f (fnOf x qual (defArgs st) (defBody st) (defScope st) .none kV doc pm an cdv ct):=⟨⟨oc,od,kV,doc,pm,an,cdv,ct,osl,rfl,l,c⟩,k⟩
end
theorem small1000{n:Nat}(h:n <= 1000):n < sizeLine:=Nat.lt_of_le_of_lt h (by decide)
section
variable {X:Cx}
theorem pv (i:Nat) {x:Str} {pos:Pos} (hN:X.N[i]?=some x:=by rfl) (hv:Vis X.env.scope x:=by first | exact Or.inl rfl | exact Or.inr (Or.inl rfl) | exact Or.inr (Or.inr rfl)) (hd:(x==("__debug__":Str))=false:=by decide)
  (hcd:(x==("__classdict__":Str))=false:=by decide):PE X (.Name x pos) (tVar i):=pe_var hN hv hd hcd
end
theorem iteF{A B:Prop}(h:B):if false=true then A else B:=by
 rw [if_neg Bool.false_ne_true]
 exact h
theorem iteT{A B:Prop}(h:A):if true=true then A else B:=by
 rw [if_pos rfl]
 exact h
theorem iteNS{c A B:Prop} [Decidable c] (hc:c) (h:B):if (!decide c)=true then A else B:=by
 rw [decide_eq_true hc]
 exact iteF h
def Same(H H':Hp):Prop:=∀ b o,H b=some o->H' b=some o
theorem Same.refl(H:Hp):Same H H:=fun _ _ h=>h
theorem Same.trans{H H1 H2:Hp}(a:Same H H1)(b:Same H1 H2):Same H H2:=fun c o h=>b c o (a c o h)
theorem Same.free{H H':Hp}(e:Same H H'){l:Addr}(h:H' l=Option.none):H l=Option.none:=by
 cases q:H l with
 | none=>rfl
 | some o=>
  rw [e l o q] at h
  cases h
theorem Same.seq{K:PySem.W.Frag}{H H':Hp}{a:Addr}{xs:List V}(e:Same H H')(h:SqL K H a xs):SqL K H' a xs:=by
 rcases h with (h | ⟨o,h⟩) | h
 ·exact .inl (.inl (e _ _ h))
 ·exact .inl (.inr ⟨o,e _ _ h⟩)
 ·exact .inr h
end L2
namespace L2
open PySem PySem.Spec PyProof.Rows
def compCl(env:Env):List (Str × NameKind)->List (Str × Addr)->List (Str × Addr)
 | [],acc=>acc
 | (n,k) :: r,acc=>compCl env r (if k==.free then (n,(env.cells.lookup n).getD 0) :: acc else acc)
theorem closure_go{env:Env}:∀ (l:List (Str × NameKind)) (acc:List (Str × Addr)),(∀ y∈l,y.2=.free->∃ c,env.cells.lookup y.1=some c)->
  (forIn l acc fun (x:Str × NameKind) (cs:List (Str × Addr))=>(if x.2==.free then (do let c <- cellOf env x.1;pure (ForInStep.yield ((x.1,c) :: cs))) else pure (ForInStep.yield cs):Sem (ForInStep (List (Str × Addr)))))=pure (compCl env l acc)
 | [],acc,_=>by rw [List.forIn_nil];rfl
 | (n,k) :: r,acc,h=>by
  have ih:=fun a=>closure_go (env:=env) r a fun y hy=>h y (List.mem_cons_of_mem _ hy)
  rw [List.forIn_cons]
  by_cases e:(k==NameKind.free)=true
  ·obtain ⟨c,hc⟩:=h (n,k) List.mem_cons_self (by simpa using e)
   have hc':env.cells.lookup n=some c:=hc
   have hcell:cellOf env n=pure c:=by unfold cellOf;rw [hc']
   simp only [e,if_true,hcell,pure_bind]
   rw [ih]
   show _=pure (compCl env r (if k==.free then (n,(env.cells.lookup n).getD 0) :: acc else acc))
   rw [if_pos e,hc']
   rfl
  ·simp only [e,if_false,pure_bind,Bool.false_eq_true]
   rw [ih]
   show _=pure (compCl env r (if k==.free then (n,(env.cells.lookup n).getD 0) :: acc else acc))
   rw [if_neg e]
theorem closure_eq{env:Env}{scope:Scope}(h:∀ y∈scope.names,y.2=.free->∃ c,env.cells.lookup y.1=some c):closureFor scope env=pure (compCl env scope.names []):=by
 have q:=closure_go (env:=env) scope.names [] h
 unfold closureFor
 simp only [bind_pure]
 exact q
theorem look_cons{n x:Str}{c:Addr}{l:List (Str × Addr)}:((n,c) :: l).lookup x=if x==n then some c else l.lookup x:=by
 rw [List.lookup_cons]
 cases x==n<;>rfl
theorem compCl_look{env:Env}:∀ (l:List (Str × NameKind)) (acc:List (Str × Addr)) (x:Str) (c:Addr),(∀ y∈l,y.2=.free->∃ c,env.cells.lookup y.1=some c)->(compCl env l acc).lookup x=some c->acc.lookup x=some c \/ env.cells.lookup x=some c
 | [],acc,x,c,_,e=>.inl e
 | (n,k) :: r,acc,x,c,h,e=>by
  have ih:=compCl_look (env:=env) r _ x c (fun y hy=>h y (List.mem_cons_of_mem _ hy)) (show (compCl env r (if k==.free then (n,(env.cells.lookup n).getD 0) :: acc else acc)).lookup x=some c from e)
  rcases ih with ih | ih
  ·by_cases ek:(k==NameKind.free)=true
   ·rw [if_pos ek,look_cons] at ih
    by_cases ex:(x==n)=true
    ·rw [if_pos ex] at ih
     obtain ⟨c',hc⟩:=h (n,k) List.mem_cons_self (by simpa using ek)
     have hc':env.cells.lookup n=some c':=hc
     rw [hc'] at ih
     have e1:c'=c:=Option.some.inj ih
     have e2:x=n:=by simpa using ex
     exact .inr (by rw [e2,hc',e1])
    ·rw [if_neg ex] at ih
     exact .inl ih
   ·rw [if_neg ek] at ih
    exact .inl ih
  ·exact .inr ih
theorem compCl_keep{env:Env}:∀ (l:List (Str × NameKind)) (acc:List (Str × Addr)) (x:Str),(∃ c,acc.lookup x=some c)->∃ c,(compCl env l acc).lookup x=some c
 | [],acc,x,h=>h
 | (n,k) :: r,acc,x,⟨c,h⟩=>by
  refine compCl_keep (env:=env) r (if k==.free then (n,(env.cells.lookup n).getD 0) :: acc else acc) x ?_
  by_cases ek:(k==NameKind.free)=true
  ·rw [if_pos ek,look_cons]
   by_cases ex:(x==n)=true
   ·rw [if_pos ex];exact ⟨_,rfl⟩
   ·rw [if_neg ex];exact ⟨c,h⟩
  ·rw [if_neg ek];exact ⟨c,h⟩
theorem compCl_has{env:Env}:∀ (l:List (Str × NameKind)) (acc:List (Str × Addr)) (x:Str),(x,NameKind.free)∈l->∃ c,(compCl env l acc).lookup x=some c
 | [],acc,x,h=>by cases h
 | (n,k) :: r,acc,x,h=>by
  rcases List.mem_cons.mp h with e | e
  ·obtain ⟨e1,e2⟩:=Prod.mk.inj e
   refine compCl_keep (env:=env) r _ x ?_
   rw [if_pos (show (k==NameKind.free)=true from by rw [<- e2];rfl),look_cons,if_pos (show (x==n)=true from by rw [e1];simp)]
   exact ⟨_,rfl⟩
  ·exact compCl_has (env:=env) r _ x e
abbrev relN(env:Env)(l:List (Str × NameKind)):List (Str × NameKind):=l.map fun (n,k)=>if (k==NameKind.free&&env.scope.kind==.function&&env.kindOf n==some .cell) then (n,NameKind.cell) else (n,k)
theorem relN_cons{env:Env}{n x:Str}{k:NameKind}{r:List (Str × NameKind)}:
  (relN env ((n,k) :: r)).lookup x=if x==n then some (if (k==NameKind.free&&env.scope.kind==.function&&env.kindOf n==some .cell) then NameKind.cell else k) else (relN env r).lookup x:=by
 show List.lookup x ((if (k==NameKind.free&&env.scope.kind==.function&&env.kindOf n==some .cell)=true then (n,NameKind.cell) else (n,k)) :: relN env r)=_
 by_cases hc:(k==NameKind.free&&env.scope.kind==.function&&env.kindOf n==some .cell)=true
 ·rw [if_pos hc,if_pos hc,List.lookup_cons]
  cases x==n<;>rfl
 ·rw [if_neg hc,if_neg hc,List.lookup_cons]
  cases x==n<;>rfl
theorem lk_cons{n x:Str}{k:NameKind}{r:List (Str × NameKind)}:((n,k) :: r).lookup x=if x==n then some k else r.lookup x:=by
 rw [List.lookup_cons]
 cases x==n<;>rfl
theorem relN_free{env:Env}:∀ {l:List (Str × NameKind)} {x:Str},l.lookup x=some .free->(relN env l).lookup x=some .cell \/ (relN env l).lookup x=some .free
 | [],x,h=>by cases h
 | (n,k) :: r,x,h=>by
  rw [lk_cons] at h
  rw [relN_cons]
  by_cases ex:(x==n)=true
  ·rw [if_pos ex] at h ⊢
   have hk:k=.free:=Option.some.inj h
   subst hk
   split
   ·exact .inl rfl
   ·exact .inr rfl
  ·rw [if_neg ex] at h ⊢
   exact relN_free h
theorem relN_inv{env:Env}:∀ {l:List (Str × NameKind)} {x:Str},(∀ y∈l,y.2≠.cell)->((relN env l).lookup x=some .cell \/ (relN env l).lookup x=some .free)->l.lookup x=some .free
 | [],x,_,h=>by rcases h with h | h<;>cases h
 | (n,k) :: r,x,hc,h=>by
  rw [relN_cons] at h
  rw [lk_cons]
  by_cases ex:(x==n)=true
  ·rw [if_pos ex] at h ⊢
   have hk:=hc (n,k) List.mem_cons_self
   have hk':k≠.cell:=hk
   by_cases c:(k==NameKind.free&&env.scope.kind==.function&&env.kindOf n==some .cell)=true
   ·have:k=.free:=by
     simp only [Bool.and_eq_true] at c
     simpa using c.1.1
    rw [this]
   ·simp only [if_neg c] at h
    rcases h with h | h
    ·exact absurd (Option.some.inj h) hk'
    ·exact h
  ·rw [if_neg ex] at h ⊢
   exact relN_inv (fun y hy=>hc y (List.mem_cons_of_mem _ hy)) h
def compCx(X:Cx)(scope:Scope)(N':List Str)(C:Addr)(s2:Shared)(H2:Hp)(fp:List Addr)(E:Value->Shared->Prop):Cx where
 prog:=X.prog
 w:=X.w
 K:=X.K
 mg:=X.mg
 base:=X.base
 A:=X.A
 N:=N'
 s₀:=s2
 H₀:=H2
 env:=compEnvC scope (compCl X.env scope.names []) C X.env
 outer:=X.stack
 stack:=X.stack
 ex:=fp
 fn:=fun _=>false
 calm:=X.calm
 pn:=[]
 xe:=E
def capS(cap:List (Option Nat))(σ:St):St:=cap.map fun o=>o.bind fun j=>(σ[j]?).join
structure CSc(X:Cx)(scope:Scope)(N':List Str)(cap:List (Option Nat)):Prop where
 kind:scope.kind=.function
 nocell:∀ y∈scope.names,y.2≠.cell
 names:∀ y∈scope.names,y.2=.local->scope.names.lookup y.1=some .local
 free:∀ y∈scope.names,y.2=.free->X.env.kindOf y.1=some .cell \/ X.env.kindOf y.1=some .free
 len:cap.length=N'.length
 cap:∀ i∈List.range cap.length,∀ j∈(cap[i]?).join,N'[i]?=X.N[j]? /\ (N'[i]?).isSome=true /\ (N'[i]?).bind (fun n=>scope.names.lookup n)=some .free
structure CScD(sc:Scope)(N:List Str)(scope:Scope)(N':List Str)(cap:List (Option Nat)):Prop where
 kind:scope.kind=.function
 nocell:∀ y∈scope.names,y.2≠.cell
 names:∀ y∈scope.names,y.2=.local->scope.names.lookup y.1=some .local
 free:∀ y∈scope.names,y.2=.free->sc.names.lookup y.1=some .cell \/ sc.names.lookup y.1=some .free
 len:cap.length=N'.length
 cap:∀ i∈List.range cap.length,∀ j∈List.range N.length,cap[i]?=some (some j)->N'[i]?=N[j]? /\ (N'[i]?).isSome=true /\ (N'[i]?).bind (fun n=>scope.names.lookup n)=some .free
theorem csc_of{X:Cx}{sc:Scope}{N:List Str}{scope:Scope}{N':List Str}{cap:List (Option Nat)}(hs:X.env.scope=sc)(hN:X.N=N)(D:CScD sc N scope N' cap)(hc:(cap.all fun o=>o.all fun j=>decide (j < N.length))=true:=by rfl):CSc X scope N' cap:=by
 subst hs hN
 refine ⟨D.kind,D.nocell,D.names,D.free,D.len,fun i hi j hj=>?_⟩
 have e:cap[i]?=some (some j):=by
  cases q:cap[i]? with
  | none=>rw [q] at hj;cases hj
  | some o=>
   rw [q] at hj
   have:o=some j:=hj
   rw [this]
 have hm:some j∈cap:=List.mem_of_getElem? e
 have hl:=List.all_eq_true.mp hc (some j) hm
 have hl':j < X.N.length:=of_decide_eq_true (by simpa using hl)
 exact D.cap i hi j (List.mem_range.mpr hl') e
def PIfs(X:Cx)(ifs:List Expr)(t:TT):Prop:=
 ∀ (pins:List (Addr × Obj)) (s:Shared) (σ:St) (H:Hp) (Q:Bool->Hp->Prop),Inv X pins σ H s->t σ H Q->
  wpAny (model X.prog X.w) X.A (forIn ifs true fun c r=>if r=true then do let ok <- isTrue c X.env (eval c X.env);pure (ForInStep.yield ok) else pure (ForInStep.yield r)) (TP X pins σ Q) X.xe s
def tAll:TT:=fun _ H Q=>Q true H
theorem pif_nil{X:Cx}:PIfs X [] tAll:=fun _ _ _ H _ I h=>wpAny_tests_nil ⟨H,I,h⟩
theorem pif_one{X:Cx}{c:Expr}{t:TT}(h:PT X c t):PIfs X [c] t:=fun pins s σ H Q I q=>wpAny_tests_one (h pins s σ H Q I q)
theorem comp_loop{prog:Program}{w:World}{A:Around}{R:Result->Shared->Prop}{s:Shared}{elt tg iter:Expr}{ifs:List Expr}{scope:Scope}{pos:Pos}{it acc:Value}{env:Env}{NE:Value->Shared->Prop}
  (hN:NE=notedBy (model prog w) A env fun e s'=>R (.error e) s') (I:Nat->Shared->Prop)
  (turn:∀ n s,I n s->wpAny (model prog w) A (pyNext it) (fun r s1=>match r with
   | none=>R (.ok .next) s1
   | some v=>wpAny (model prog w) A (letOwnedTupleGo tg it v) (fun _ s2=>wpAny (model prog w) A (assign tg env v) (fun _ s3=>
     wpAny (model prog w) A (forIn ifs true fun c r=>if r=true then do let ok <- isTrue c env (eval c env);pure (ForInStep.yield ok) else pure (ForInStep.yield r)) (fun ok s4=>
      if ok=true then wpAny (model prog w) A (eval elt env) (fun x s5=>wpAny (model prog w) A (call (.builtin "list.append") [acc,x]) (fun _ s6=>∃ m,m < n /\ I m s6) NE s5) NE s4
      else ∃ m,m < n /\ I m s4) NE s3) NE s2) NE s1) NE s)
  (n:Nat) (h:I n s):codeAny (model prog w) A (.compLoop (.ListComp elt [⟨tg,iter,ifs,0⟩] scope pos) 0 it acc env) R s:=by
 subst hN
 refine codeAny_loop rfl I (fun k s' hI=>?_) n h
 refine (wpAny_noted ?_:wpAny _ A ((compTurn (.ListComp elt [⟨tg,iter,ifs,0⟩] scope pos) 0 it acc env).onRaise (fun x=>do noteFrame x env;theTreesLotGoes x)) _ _ s')
 rw [compTurn_list]
 refine wpAny_bind (wpAny_standAt (wpAny_bind (thn (turn k s' hI) fun r s1 h1=>?_)))
 cases r with
 | none=>exact wpAny_pure h1
 | some v=>
  refine wpAny_bind (thn h1 fun _ s2 h2=>wpAny_bind (thn h2 fun _ s3 h3=>wpAny_bind (thn h3 fun ok s4 h4=>?_)))
  cases ok with
  | false=>exact wpAny_pure ⟨rfl,h4⟩
  | true=>exact wpAny_bind (wpAny_bind (thn h4 fun x s5 h5=>wpAny_bind (thn h5 fun _ s6 h6=>wpAny_pure (wpAny_pure ⟨rfl,h6⟩))))
def Turns(J:It)(g:TG)(tst:TT)(te:TE)(p:Addr)(Q:Hp->Prop)(σ:St)(H:Hp):Prop:=
 ∃ W:Nat->Nat->St->Hp->Prop,(∃ m,W 0 m σ H) /\ ∀ i m σ' H',W i m σ' H'->
  (J.stop i H' /\ Q H') \/ (J.go i H' /\ ∃ N:St->Hp->Prop,(∀ σ2 H2,N σ2 H2->∃ m',m' < m /\ W (i+1) m' σ2 H2) /\
   ∀ x H1,J.yld i H' x H1->g x σ' H1 fun σ2 H2=>tst σ2 H2 fun c H3=>if c=true then te σ2 H3 fun y H4=>∃ xs,H4 p=some (.lst xs) /\ xs.length < sizeLine /\ N σ2 (upd H4 p (.lst (xs++[y]))) else N σ2 H3)
def tComp(wi:TI)(cap:List (Option Nat))(g:TG)(tst:TT)(te:TE):TE:=fun σ H Q=>wi σ H fun J H1=>∀ p,H1 p=none->Turns J g tst te p (fun H'=>Q (.ref p) H') (capS cap σ) (upd H1 p (.lst []))
section
variable {X:Cx} {pins:List (Addr × Obj)} {σ:St} {H:Hp} {s:Shared}
theorem Inv.cellOf(I:Inv X pins σ H s){scope:Scope}{N':List Str}{cap:List (Option Nat)}(S:CSc X scope N' cap):∀ y∈scope.names,y.2=.free->∃ c,X.env.cells.lookup y.1=some c:=fun y hy e=>I.ok.has y.1 (S.free y hy e)
theorem Inv.clLook(I:Inv X pins σ H s){scope:Scope}{N':List Str}{cap:List (Option Nat)}(S:CSc X scope N' cap){x:Str}{c:Addr}(e:(compCl X.env scope.names []).lookup x=some c):X.env.cells.lookup x=some c:=by
 rcases compCl_look scope.names [] x c (I.cellOf S) e with h | h
 ·cases h
 ·exact h
theorem Inv.compOk(I:Inv X pins σ H s){scope:Scope}{N':List Str}{cap:List (Option Nat)}(S:CSc X scope N' cap){fp:List Addr}{C:Addr}{E:Value->Shared->Prop}(hC:s.heap.objs.size <= C)(hf:∀ b∈fp,FpOk X pins H b)
  (ho:∀ b∈fp,b < s.heap.objs.size):(compCx X scope N' C s H fp E).Ok:=by
 have nst:∀ b∈fp,b∉frs X.stack:=fun b hb z=>by
  obtain ⟨_,f1,f2,_⟩:=hf b hb
  rcases List.mem_cons.mp (I.stkSub b z) with e | e
  ·exact f1 e
  ·exact f2 e
 refine ⟨I.ok.mod,S.kind,I.ok.glob,I.ok.blt,hC,fun x y c h1 h2=>?_,fun x hx=>?_,fun x c h=>(by cases h),I.ok.hd,I.ok.frames,.inl rfl,fun b hb=>⟨?_,fun x c e=>?_⟩,fun b o e=>I.bs b o e,Nat.le_trans I.ok.bsz I.sz,fun b o e hb=>?_,nst,I.stack,I.stkFree⟩
 ·exact I.ok.inj x y c (I.clLook S h1) (I.clLook S h2)
 ·have q:scope.names.lookup x=some .free:=relN_inv S.nocell hx
  exact compCl_has _ _ x (PySem.mem_of_lookup q)
 ·exact Nat.ne_of_lt (Nat.lt_of_lt_of_le (ho b hb) hC)
 ·exact (hf b hb).2.2.2.2.1 x c (I.clLook S e)
 ·rcases (hf b hb).2.2.2.1 with z | z
  ·exact I.ok.noex b o e z
  ·exact absurd (Nat.lt_of_lt_of_le (Heap.lt_size e) (Nat.le_trans I.ok.bsz z)) (Nat.lt_irrefl _)
theorem Inv.compStart(I:Inv X pins σ H s){scope:Scope}{N':List Str}{cap:List (Option Nat)}(S:CSc X scope N' cap){fp:List Addr}{D C:Addr}{h1:Heap}{m:Str->Option Value}{tk:Nat}{E:Value->Shared->Prop}
  (hD:s.heap.objs.size <= D) (hC:s.heap.objs.size <= C) (hDC:D≠C) (hf:∀ b∈fp,FpOk X pins H b) (ho:∀ b∈fp,b < s.heap.objs.size)
  (k:∀ b o,s.heap.get? b=some o->h1.get? b=some o) (hd:h1.get? D=some { cls:=.type "list",data:=.seq #[] }) (hn:h1.Ns C m):
  Inv (compCx X scope N' C s H fp E) [] (capS cap σ) (upd H D (.lst [])) { s with heap:=h1,toks:=tk }:=by
 have lt:∀ b o,s.heap.get? b=some o->b≠D:=fun b o e=>Nat.ne_of_lt (Nat.lt_of_lt_of_le (Heap.lt_size e) hD)
 refine ⟨I.compOk S hC hf ho,rfl,I.bare,Un.laid k hD (I.hok.fresh hD),⟨m,hn,fun i x v e1 e2 e3=>?_⟩,fun x c e=>?_,?_,fun x c e=>?_,fun p hp=>absurd (show p∈([]:List (Addr × Obj)) from hp) (by simp),
  I.hok.laid k hD ⟨Nat.zero_le _,[],_,.nil,hd⟩,by unfold capS;rw [List.length_map];exact S.len⟩
 ·
  have e2':(cap.map fun o=>o.bind fun j=>(σ[j]?).join)[i]?=some (some v):=e2
  rw [List.getElem?_map] at e2'
  cases hc:cap[i]? with
  | none=>rw [hc] at e2';cases e2'
  | some o=>
   rw [hc] at e2'
   have e2'':(o.bind fun j=>(σ[j]?).join)=some v:=Option.some.inj e2'
   cases o with
   | none=>cases e2''
   | some j=>
    have hv:(σ[j]?).join=some v:=e2''
    have hσ:σ[j]?=some (some v):=by
     cases q:σ[j]? with
     | none=>rw [q] at hv;cases hv
     | some w'=>rw [q] at hv;rw [show w'=some v from hv]
    have hi:i∈List.range cap.length:=List.mem_range.mpr (List.getElem?_eq_some_iff.mp hc).1
    obtain ⟨a1,_,a3⟩:=S.cap i hi j (by rw [hc];rfl)
    have e1':N'[i]?=some x:=e1
    rw [e1'] at a1 a3
    have a3':scope.names.lookup x=some .free:=a3
    have hk:=S.free _ (PySem.mem_of_lookup a3') rfl
    have hk':X.env.kindOf x=some .cell \/ X.env.kindOf x=some .free:=hk
    obtain ⟨m0,hn0,hl⟩:=I.loc
    obtain ⟨u,ru,lk⟩:=hl j x v a1.symm hσ (hk'.elim (fun z=>.inr (.inl z)) fun z=>.inr (.inr z))
    refine ⟨u,ru,?_⟩
    rcases lk with ⟨z,_⟩ | ⟨_,c,ec,hcell⟩
    ·rcases hk' with q | q
     ·rw [z] at q;cases q
     ·rw [z] at q;cases q
    ·obtain ⟨c',ec'⟩:=compCl_has (env:=X.env) scope.names [] x (PySem.mem_of_lookup a3')
     have:c'=c:=Option.some.inj ((I.clLook S ec').symm.trans ec)
     subst this
     exact .inr ⟨relN_free (env:=X.env) a3',c',ec',hcell.keeps k⟩
 ·obtain ⟨v,z⟩:=I.cell x c (I.clLook S e)
  exact ⟨v,z.keeps k⟩
 ·show upd H D _ C=none
  rw [upd_ne hDC.symm]
  exact I.hok.fresh hC
 ·obtain ⟨v,o,z,_⟩:=I.cell x c (I.clLook S e)
  rw [upd_ne (lt c o z)]
  exact I.freeC x c (I.clLook S e)
theorem Inv.compBack{scope:Scope}{N':List Str}{fp:List Addr}{C:Addr}{E:Value->Shared->Prop}{pins':List (Addr × Obj)}{σ':St}{H':Hp}{s':Shared}(I:Inv X pins σ H s)(hf:∀ b∈fp,FpOk X pins H b)
  (J:Inv (compCx X scope N' C s H fp E) pins' σ' H' s'):Inv X pins σ H' s':=
 I.call' (ch:=fp) J.os J.base J.hok J.bare fun b hb=>⟨(hf b hb).2.2.2.1,(hf b hb).2.1,(hf b hb).2.2.2.2.1,(hf b hb).2.2.2.2.2⟩
def CompEnd(X:Cx)(pins:List (Addr × Obj))(σ:St)(Q:VK)(acc:Value)(C:Addr)(r:Result)(s':Shared):Prop:=
 match r with
 | .ok _=>∃ p H' m,acc=.ref p /\ Inv X pins σ H' s' /\ FpOk X pins H' C /\ s'.heap.Ns C m /\ Q (.ref p) H'
 | .error _=>False
theorem comp_core{elt tg iter:Expr}{ifs:List Expr}{scope:Scope}{pos:Pos}{N':List Str}{cap:List (Option Nat)}{wi:TI}{g:TG}{tst:TT}{te:TE}{Q:VK}(hc:X.calm=true)(S:CSc X scope N' cap)(hi:PI X tg iter wi)
  (hg:∀ C s2 H2 fp,PG (compCx X scope N' C s2 H2 fp fun _ _=>False) tg g) (ht:∀ C s2 H2 fp,PIfs (compCx X scope N' C s2 H2 fp fun _ _=>False) ifs tst)
  (he:∀ C s2 H2 fp,PE (compCx X scope N' C s2 H2 fp fun _ _=>False) elt te) (I:Inv X pins σ H s) (h:tComp wi cap g tst te σ H Q):
  wpAny (model X.prog X.w) X.A (eval iter X.env) (fun x s1=>wpAny (model X.prog X.w) X.A (pyIter x) (fun it s2=>wpAny (model X.prog X.w) X.A (newList []) (fun acc s3=>
   wpAny (model X.prog X.w) X.A (newFunctionEnv scope X.env.globals (compCl X.env scope.names []) [] X.env.qual none .none (some X.env)) (fun cenv s4=>
    codeAny (model X.prog X.w) X.A (.compStart (.ListComp elt [⟨tg,iter,ifs,0⟩] scope pos) 0 it acc { cenv with scope:=relabel scope X.env }) (CompEnd X pins σ Q acc cenv.locals) s4) X.xe s3) X.xe s2) X.xe s1) X.xe s:=by
 refine thn (hi pins s σ H _ I h) fun v s1 h1=>thn h1 fun itv s2 h2=>?_
 obtain ⟨it,fp,tn,J,H2,e,I2,T,st2,f2,q⟩:=h2
 subst e
 have ho:∀ b∈fp,b < s2.heap.objs.size:=fun b hb=>by
  obtain ⟨o,e,_⟩:=T.obj _ _ st2 b hb
  exact Heap.lt_size e
 refine wpAny_newObj_type (wpAny_newFunctionEnv S.nocell (by intro y hy;simp at hy) (fun hp1 hns1 hsb1=>?_) S.kind)
 have hDn:s2.heap.objs.size≠(s2.heap.push { cls:=.type "list",dict:=none,data:=.seq ([]:List Value).toArray }).objs.size:=by rw [Heap.size_push];exact Nat.ne_of_lt (Nat.lt_succ_self _)
 have hCle:s2.heap.objs.size <= (s2.heap.push { cls:=.type "list",dict:=none,data:=.seq ([]:List Value).toArray }).objs.size:=by rw [Heap.size_push];exact Nat.le_succ _
 have old:∀ b o,s2.heap.get? b=some o->hp1.get? b=some o:=fun b o e=>
  hsb1.extBut b o (Nat.ne_of_lt (Nat.lt_of_lt_of_le (Heap.lt_size e) hCle)) (Heap.get?_push_of_some _ (Heap.get?_push_of_some _ e))
 have hacc:hp1.get? s2.heap.objs.size=some { cls:=.type "list",data:=.seq #[] }:=hsb1.extBut _ _ hDn (Heap.get?_push_of_some _ (Heap.get?_push_size _ rfl))
 let X':Cx:=compCx X scope N' (s2.heap.push { cls:=.type "list",dict:=none,data:=.seq ([]:List Value).toArray }).objs.size s2 H2 fp fun _ _=>False
 obtain ⟨W,⟨m0,w0⟩,turn⟩:=q s2.heap.objs.size (I2.hok.fresh (Nat.le_refl _))
 have J0:Inv X' [] (capS cap σ) (upd H2 s2.heap.objs.size (.lst [])) { s2 with heap:=hp1,toks:=s2.toks+([]:List (Str × Value)).length }:=I2.compStart S (Nat.le_refl _) hCle hDn f2 ho old hacc hns1
 have stat:∀ {H':Hp},(∀ b∈fp,H' b=none)->∀ b∈fp,FpOk X' [] H' b:=fun hn b hb=>by
  obtain ⟨_,g1,g2,g3,g4,g5⟩:=f2 b hb
  refine ⟨hn b hb,Nat.ne_of_lt (Nat.lt_of_lt_of_le (ho b hb) hCle),J0.ok.exfs b hb,.inl hb,fun x c e=>g4 x c (I2.clLook S e),fun p hp=>absurd (show p∈([]:List (Addr × Obj)) from hp) (by simp)⟩
 have fr0:∀ b∈fp,upd H2 s2.heap.objs.size (.lst []) b=none:=fun b hb=>by rw [upd_ne (Nat.ne_of_lt (ho b hb))];exact (f2 b hb).1
 have loop:codeAny (model X.prog X.w) X.A (.compLoop (.ListComp elt [⟨tg,iter,ifs,0⟩] scope pos) 0 (.ref it) (.ref s2.heap.objs.size) X'.env)
   (CompEnd X pins σ Q (.ref s2.heap.objs.size) (s2.heap.push { cls:=.type "list",dict:=none,data:=.seq ([]:List Value).toArray }).objs.size) { s2 with heap:=hp1,toks:=s2.toks+([]:List (Str × Value)).length }:=by
  refine comp_loop rfl (fun n s'=>∃ i σ' H',Inv X' [] σ' H' s' /\ tn i s'.heap /\ (∀ b∈fp,H' b=none) /\ W i n σ' H') ?_ m0 ⟨0,_,_,J0,T.keep _ _ _ st2 fun b _ o e=>old b o e,fr0,w0⟩
  rintro n s3 ⟨i,σ3,H3,I3,st3,fr3,w3⟩
  have no:∀ (e:Value) (s':Shared),X'.xe e s'->notedBy (model X.prog X.w) X.A X'.env (fun e s'=>CompEnd X pins σ Q (.ref s2.heap.objs.size) (s2.heap.push { cls:=.type "list",dict:=none,data:=.seq ([]:List Value).toArray }).objs.size (.error e) s') e s':=fun _ _ z=>z.elim
  rcases turn i n σ3 H3 w3 with ⟨stop,qn⟩ | ⟨go,N,hN,step⟩
  ·refine wpAny_mono (T.done X' rfl rfl rfl hc i [] s3 σ3 H3 X'.xe I3 (stat fr3) st3 stop) (fun r s4 ⟨hr,I4⟩=>?_) no
   subst hr
   obtain ⟨mC,hmC,_⟩:=I4.loc
   exact ⟨_,H3,mC,rfl,I2.compBack f2 I4,I2.fpOk hCle I4.free,hmC,qn⟩
  ·refine wpAny_mono (T.item X' rfl rfl rfl hc i [] s3 σ3 H3 X'.xe I3 (stat fr3) st3 go) (fun r s4 ⟨u,hr,h4⟩=>?_) no
   subst hr
   refine wpAny_mono h4 (fun _ s5 ⟨x,H5,I5,r5,y5,st5,fr5⟩=>?_) no
   have I5':=I5.pinned (stat fr5) (T.obj _ _ st5)
   refine wpAny_mono (hg _ _ _ _ _ s5 σ3 H5 x u _ I5' r5 (step x H5 y5)) (fun _ s6 ⟨σ6,H6,I6,q6⟩=>?_) no
   refine wpAny_mono (ht _ _ _ _ _ s6 σ6 H6 _ I6 q6) (fun ok s7 ⟨H7,I7,q7⟩=>?_) no
   have again:∀ {σ7:St} {H7:Hp} {s7:Shared},Inv X' ([]++pinsAt fp s5.heap) σ7 H7 s7->N σ7 H7->∃ m,m < n /\ ∃ i σ' H',Inv X' [] σ' H' s7 /\ tn i s7.heap /\ (∀ b∈fp,H' b=none) /\ W i m σ' H':=fun {σ7 H7 s7} I7 n7=>by
    obtain ⟨m',hm,w7⟩:=hN σ7 H7 n7
    refine ⟨m',hm,i+1,σ7,H7,I7.unpinned,T.keep _ _ _ st5 fun b hb o e=>(I7.pin (b,o) (List.mem_append_right _ (List.mem_append_right _ (mem_pinsAt hb e)))).1,fun b hb=>?_,w7⟩
    obtain ⟨o,e,d⟩:=T.obj _ _ st5 b hb
    exact (I7.pin (b,o) (List.mem_append_right _ (List.mem_append_right _ (mem_pinsAt hb e)))).2.1
   cases ok with
   | false=>exact again I7 q7
   | true=>
    refine wpAny_mono (he _ _ _ _ _ s7 σ6 H7 _ I7 q7) (fun y s8 ⟨z,H8,I8,r8,xs,e8,l8,q8⟩=>?_) no
    refine wpAny_mono (mt_append (X:=X') _ s8 σ6 H8 (.ref s2.heap.objs.size) [z] (.ref s2.heap.objs.size) [y] (fun _ H9=>N σ6 H9) I8 rfl (.cons r8 .nil) ⟨_,xs,z,rfl,rfl,e8,l8,q8⟩) (fun _ s9 ⟨_,H9,I9,_,q9⟩=>?_) no
    exact again I9 q9
 exact codeAny_compStart_list loop (T.self _ 0 _ _ _ (T.keep _ _ _ st2 fun b _ o e=>old b o e) loop)
theorem pe_comp{elt tg iter:Expr}{ifs:List Expr}{scope:Scope}{pos:Pos}{N':List Str}{cap:List (Option Nat)}{wi:TI}{g:TG}{tst:TT}{te:TE}(hc:X.calm=true)(S:CSc X scope N' cap)(hi:PI X tg iter wi)
  (hg:∀ C s2 H2 fp,PG (compCx X scope N' C s2 H2 fp fun _ _=>False) tg g) (ht:∀ C s2 H2 fp,PIfs (compCx X scope N' C s2 H2 fp fun _ _=>False) ifs tst)
  (he:∀ C s2 H2 fp,PE (compCx X scope N' C s2 H2 fp fun _ _=>False) elt te) (hs:∀ x,foldedSetIterable iter X.env x=pure x:=by intro _;rfl):
  PE X (.ListComp elt [⟨tg,iter,ifs,0⟩] scope pos) (tComp wi cap g tst te):=by
 intro pins s σ H Q I h
 rw [eval_ListComp]
 refine wpAny_comprehension_free (use:=none) rfl hs (closure_eq (I.cellOf S)) S.kind S.names (thn (comp_core (Q:=Q) hc S hi hg ht he I h) fun xv s1 h1=>thn h1 fun it s2 h2=>thn h2 fun acc s3 h3=>thn h3 fun cenv s4 h4=>codeAny_mono h4 fun r s5 h5=>?_)
 cases r with
 | error e=>exact False.elim h5
 | ok fl=>
  obtain ⟨p,H',m,rfl,I',F',hn,q⟩:=h5
  refine ⟨m,hn,fun h' sb=>⟨.ref p,H',?_,rfl,q⟩⟩
  exact I'.turned (t':=s5.toks) (fun b o hb e=>sb.extBut b o hb e) F'.1 F'.2.1 F'.2.2.2.1 F'.2.2.2.2.1 F'.2.2.2.2.2
theorem ps_setComp{i:Nat}{x:Str}{elt tg iter:Expr}{ifs:List Expr}{scope:Scope}{pos pos' cpos:Pos}{N':List Str}{cap:List (Option Nat)}{wi:TI}{g:TG}{tst:TT}{te:TE}(hN:X.N.Nodup)(hx:X.N[i]?=some x)(hl:X.env.scope.names.lookup x=some .local)
  (hc:X.calm=true) (S:CSc X scope N' cap) (hi:PI X tg iter wi)
  (hg:∀ C s2 H2 fp,PG (compCx X scope N' C s2 H2 fp fun _ _=>False) tg g) (ht:∀ C s2 H2 fp,PIfs (compCx X scope N' C s2 H2 fp fun _ _=>False) ifs tst)
  (he:∀ C s2 H2 fp,PE (compCx X scope N' C s2 H2 fp fun _ _=>False) elt te)
  (hsw:swapsWith (.ListComp elt [⟨tg,iter,ifs,0⟩] scope cpos) (some (.Name x pos')) pos.line X.env=pure true:=by rfl) (hs:∀ x,foldedSetIterable iter X.env x=pure x:=by intro _;rfl):
  PS X (.Assign [.Name x pos'] (.ListComp elt [⟨tg,iter,ifs,0⟩] scope cpos) pos) (tAsg (tComp wi cap g tst te) (gName i)):=by
 intro pins s σ H D I h
 rw [exec_Assign_Name_used _ _ _ _ hsw]
 refine wpAny_bind (wpAny_standAt (wpAny_bind ?_))
 show wpAny (model X.prog X.w) X.A (do let _ <- comprehension (.ListComp elt [⟨tg,iter,ifs,0⟩] scope cpos) scope X.env _ (newList []) false (eval iter X.env) (some (assign (.Name x pos') X.env))) _ _ s
 refine wpAny_bind (thn (wpAny_comprehension_free (use:=some (assign (.Name x pos') X.env)) (Q:=fun _ s'=>SP X pins D .next s') rfl hs (closure_eq (I.cellOf S)) S.kind S.names
  (thn (comp_core (Q:=fun v H1=>gName i v σ H1 D.nx) hc S hi hg ht he I h) fun xv s1 h1=>thn h1 fun it s2 h2=>thn h2 fun acc s3 h3=>thn h3 fun cenv s4 h4=>codeAny_mono h4 fun r s5 h5=>?_)) fun _ s' hq=>wpAny_pure (wpAny_pure hq))
 cases r with
 | error e=>exact False.elim h5
 | ok fl=>
  obtain ⟨p,H',m,rfl,I',F',hn,q⟩:=h5
  refine (wpAny_assign_Name (store_ok2 (v:=V.ref p) I' hN hx (.inl hl) rfl (fun s6 I6 ⟨a,sb6,ha⟩=>?_) (.inr hl)):wpAny (model X.prog X.w) X.A (assign (.Name x pos') X.env (.ref p)) _ _ s5)
  have aC:cenv.locals≠a:=by
   rcases ha with z | z
   ·rw [z];exact F'.2.1
   ·exact fun w'=>F'.2.2.2.2.1 _ _ z w'.symm
  refine ⟨m,hn.sameBut sb6 aC,fun h' sb=>⟨_,H',?_,q⟩⟩
  exact I6.turned (t':=s6.toks) (fun b o hb e=>sb.extBut b o hb e) F'.1 F'.2.1 F'.2.2.2.1 F'.2.2.2.2.1 F'.2.2.2.2.2
end
theorem turns_list{K:PySem.W.Frag}{a p:Addr}{xs:List V}{g:TG}{tst:TT}{te:TE}{Q:Hp->Prop}{σ:St}{H:Hp}(Pv:Nat->St->Hp->Prop)(h0:Pv 0 σ H)(hl:∀ i σ H,i <= xs.length->Pv i σ H->SqL K H a xs)
  (hs:∀ i x σ H,xs[i]?=some x->Pv i σ H->g x σ H fun σ2 H2=>tst σ2 H2 fun c H3=>if c=true then te σ2 H3 fun y H4=>∃ ys,H4 p=some (.lst ys) /\ ys.length < sizeLine /\ Pv (i+1) σ2 (upd H4 p (.lst (ys++[y]))) else Pv (i+1) σ2 H3)
  (hd:∀ σ H,Pv xs.length σ H->Q H):Turns (Itl K a) g tst te p Q σ H:=by
 refine ⟨fun i m σ H=>m=xs.length - i /\ i <= xs.length /\ Pv i σ H,⟨xs.length,by simp,Nat.zero_le _,h0⟩,?_⟩
 rintro i m σ H ⟨rfl,hi,p⟩
 have q:=hl i σ H hi p
 by_cases hlt:i < xs.length
 ·refine .inr ⟨⟨xs,xs[i],q,by simp [hlt]⟩,Pv (i+1),fun σ' H' p'=>⟨xs.length - (i+1),by omega,rfl,hlt,p'⟩,fun x H' y=>?_⟩
  obtain ⟨e,y⟩:=y
  subst e
  exact hs i x σ _ (y xs q) p
 ·have e:i=xs.length:=by omega
  subst e
  exact .inl ⟨⟨xs,q,Nat.le_refl _⟩,hd σ H p⟩
theorem turns_range{p:Addr}{lo:Int}{n:Nat}{g:TG}{tst:TT}{te:TE}{Q:Hp->Prop}{σ:St}{H:Hp}(Pv:Nat->St->Hp->Prop)(h0:Pv 0 σ H)
  (hs:∀ i σ H,i < n->Pv i σ H->g (.int (lo+i)) σ H fun σ2 H2=>tst σ2 H2 fun c H3=>if c=true then te σ2 H3 fun y H4=>∃ ys,H4 p=some (.lst ys) /\ ys.length < sizeLine /\ Pv (i+1) σ2 (upd H4 p (.lst (ys++[y]))) else Pv (i+1) σ2 H3)
  (hd:∀ σ H,Pv n σ H->Q H):Turns (Itr lo n) g tst te p Q σ H:=by
 refine ⟨fun i m σ H=>m=n - i /\ i <= n /\ Pv i σ H,⟨n,by simp,Nat.zero_le _,h0⟩,?_⟩
 rintro i m σ H ⟨rfl,hi,p⟩
 by_cases hlt:i < n
 ·refine .inr ⟨hlt,Pv (i+1),fun σ' H' p'=>⟨n - (i+1),by omega,rfl,hlt,p'⟩,fun x H' y=>?_⟩
  obtain ⟨e,y⟩:=y
  subst e y
  exact hs i σ _ hlt p
 ·have e:i=n:=by omega
  subst e
  exact .inl ⟨Nat.le_refl _,hd σ H p⟩
end L2
namespace L2
open PySem PySem.Spec PyProof.Rows
section
variable {X:Cx} {pins:List (Addr × Obj)} {σ:St} {H:Hp} {s:Shared} {h':Heap}
theorem Inv.turnedLaid{t':Nat}{ch:List Addr}{a:Addr}{o:HO}(I:Inv X pins σ H s)(hf:∀ b∈ch,FpOk X pins H b)(k:∀ b ob,b∉ch->s.heap.get? b=some ob->h'.get? b=some ob)(hp:s.heap.objs.size <= a)
  (new:ObjOk X.prog X.w (upd H a o) h' a o):Inv X pins σ (upd H a o) { s with heap:=h',toks:=t' }:=by
 have hn:=I.hok.fresh hp
 have ntr:∀ b u,H b=some u->b∉ch:=fun b u e hb=>by
  have z:=(hf b hb).1
  rw [z] at e;cases e
 have lt:∀ b ob,s.heap.get? b=some ob->b≠a:=fun b ob e=>Nat.ne_of_lt (Nat.lt_of_lt_of_le (Heap.lt_size e) hp)
 refine I.step (g':=s.gens) (d':=s.drawn) (ch:=ch) (fun b hb=>⟨(hf b hb).2.2.2.1,(hf b hb).2.1,(hf b hb).2.2.2.2.1,(hf b hb).2.2.2.2.2⟩) (fun b ob _ _ hc e _=>k b ob hc e) (fun b ob _ _ hc e _=>⟨ob.slots,k b ob hc e⟩)
  (fun b ob _ e n=>by rw [upd_ne (lt b ob e)];exact n) (fun b ob hc e=>⟨ob,k b ob hc e⟩) (fun b xs e=>by rw [upd_ne (ne_of_none e hn)];exact e) (fun b ob u e=>by rw [upd_ne (ne_of_none e hn)];exact e)
  (fun b pl y e=>by rw [upd_ne (ne_of_none e hn)];exact e) (fun m hm=>?_) (fun b u e=>?_) I.bare
 ·obtain ⟨ob,es,ep,ho,r⟩:=hm
  exact ⟨ob,es,ep,k _ ob (fun z=>(hf _ z).2.1 rfl) ho,r⟩
 ·by_cases hb:b=a
  ·subst hb
   rw [upd_same] at e
   cases e
   exact new
  ·rw [upd_ne hb] at e
   refine (I.hok b u e).stay (fun c v hc q=>k c v ?_ q) (fun c q=>by rw [upd_ne (ne_of_none q hn)];exact q) (fun c xs q=>by rw [upd_ne (ne_of_none q hn)];exact q) fun c ob y q=>by rw [upd_ne (ne_of_none q hn)];exact q
   rcases hc with rfl | hc
   ·exact ntr c u e
   ·exact ntr c _ hc
theorem Inv.turnedAll{t':Nat}{ch:List Addr}(I:Inv X pins σ H s)(hf:∀ b∈ch,FpOk X pins H b)(k:∀ b ob,b∉ch->s.heap.get? b=some ob->h'.get? b=some ob):Inv X pins σ H { s with heap:=h',toks:=t' }:=by
 have ntr:∀ b u,H b=some u->b∉ch:=fun b u e hb=>by
  have z:=(hf b hb).1
  rw [z] at e;cases e
 refine I.step (g':=s.gens) (d':=s.drawn) (ch:=ch) (fun b hb=>⟨(hf b hb).2.2.2.1,(hf b hb).2.1,(hf b hb).2.2.2.2.1,(hf b hb).2.2.2.2.2⟩) (fun b ob _ _ hc e _=>k b ob hc e) (fun b ob _ _ hc e _=>⟨ob.slots,k b ob hc e⟩)
  (fun b ob _ _ n=>n) (fun b ob hc e=>⟨ob,k b ob hc e⟩) (fun b xs e=>e) (fun b ob u e=>e) (fun b pl y e=>e) (fun m hm=>?_) (fun b u e=>?_) I.bare
 ·obtain ⟨ob,es,ep,ho,r⟩:=hm
  exact ⟨ob,es,ep,k _ ob (fun z=>(hf _ z).2.1 rfl) ho,r⟩
 ·refine (I.hok b u e).stay (fun c v hc q=>k c v ?_ q) (fun c q=>q) (fun c xs q=>q) fun c ob y q=>q
  rcases hc with rfl | hc
  ·exact ntr c u e
  ·exact ntr c _ hc
end
def Ite(K:PySem.W.Frag)(a:Addr):It:=
 ⟨fun i H=>∃ xs x,SqL K H a xs /\ xs[i]?=some x,fun i H v H'=>∃ t x,v=.ref t /\ H t=none /\ H'=upd H t (.tup [.int i,x]) /\ ∀ xs,SqL K H a xs->xs[i]?=some x,fun i H=>∃ xs,SqL K H a xs /\ xs.length <= i⟩
theorem tup_new {P:Program} {w:World} {H:Hp} {h:Heap} {a:Addr} {xs:List V} {us:List Value} (r:Vals xs us) (hz:xs.length <= sizeLine) {n:Nat} (e:h.get? a=some { cls:=.type "tuple",data:=.seq us.toArray n }):ObjOk P w H h a (.tup xs):=
 ⟨hz,us,r,_,e,rfl,_,rfl⟩
theorem turn_enum{P:Program}{w:World}{K:PySem.W.Frag}{es:List Expr}{k:Nat}{pos:Pos}(a e it:Addr)(hei:e≠it):Turn P w K (.Tuple es k pos) (Ite K a) [e,it] e (fun i h=>(∃ old,IsEnum h e it i old) /\ h.IsListIter it a i) where
 mem:=by simp
 obj:=fun i h st b hb=>by
  obtain ⟨⟨old,he⟩,o,ho,c,d⟩:=st
  rcases List.mem_cons.mp hb with z | hb
  ·subst z
   exact ⟨_,he,fun v q=>by
    have q':Data.fields _=Data.cell v:=q
    cases q'⟩
  ·have z:b=it:=by simpa using hb
   subst z
   exact ⟨o,ho,fun v q=>by rw [d] at q;cases q⟩
 keep:=fun i h h' st k=>⟨let ⟨old,he⟩:=st.1;⟨old,k e (by simp) _ he⟩,st.2.at fun o q=>k it (by simp) o q⟩
 item:=by
  intro X hP hw hK hc i pins s σ H E I hf st hg
  subst hP hw hK
  obtain ⟨xs,x,hq,hx⟩:=hg
  obtain ⟨its,rv,p,hz⟩:=I.list hq
  obtain ⟨u,hu,ru⟩:=rv.get hx
  obtain ⟨⟨old,he⟩,hit⟩:=st
  refine wpAny_pyNext_enum_item he hit p.isList (x:=u) (by simpa using hu) hei fun h1 ho hit1 hT hsz hk=>⟨_,rfl,?_⟩
  have hel:e < s.heap.objs.size:=Heap.lt_size he
  have hil:it < s.heap.objs.size:=by obtain ⟨_,q,_⟩:=hit;exact Heap.lt_size q
  refine wpAny_letOwnedTupleGo_enum ho fun h2 he2 hs2=>?_
  refine ⟨.ref s.heap.objs.size,upd H s.heap.objs.size (.tup [.int i,x]),?_,rfl,⟨_,x,rfl,I.hok.fresh (Nat.le_refl _),rfl,fun ys hy=>by rw [I.list_inj hy hq];exact hx⟩,⟨⟨u,by simpa using he2⟩,hit1.at fun o q=>(hs2.2 it hei.symm).trans q⟩,fun b hb=>?_⟩
  ·refine I.turnedLaid (ch:=[e,it]) hf (fun b ob hb q=>(hs2.2 b fun z=>hb (by simp [z])).trans (hk b ob (fun z=>hb (by simp [z])) (fun z=>hb (by simp [z])) q)) (Nat.le_refl _) ?_
   exact tup_new (us:=[.int i s.toks,u]) (.cons ⟨_,rfl⟩ (.cons ru .nil)) (by show 2 <= sizeLine;decide) ((hs2.2 _ (Nat.ne_of_gt hel)).trans hT)
  ·have hbl:b < s.heap.objs.size:=by
    rcases List.mem_cons.mp hb with z | hb
    ·rw [z];exact hel
    ·rw [show b=it by simpa using hb];exact hil
   rw [upd_ne (Nat.ne_of_lt hbl)]
   exact (hf b hb).1
 done:=by
  intro X hP hw hK hc i pins s σ H E I hf st hg
  subst hP hw hK
  obtain ⟨xs,hq,hx⟩:=hg
  obtain ⟨its,rv,p,hz⟩:=I.list hq
  obtain ⟨⟨old,he⟩,hit⟩:=st
  have hl:=rv.length
  exact wpAny_pyNext_enum_end (I.ok.hd hc) he hit p.isList (by simp;omega) fun h1 eb=>⟨rfl,I.turnedAll (t':=s.toks) (ch:=[e,it]) hf fun b ob hb q=>eb b ob (fun z=>hb (by simp [z])) q⟩
 self:=fun _ _ _ _ _ st h=>let ⟨⟨_,he⟩,_⟩:=st;wpAny_pyIter_enum he h
theorem boot_enum:bootBuiltins ("enumerate":Str)=some (.type "enumerate"):=by first | exact PyProof.Rows.Boot.«enumerate» | exact PySem.boot_enumerate | rfl | decide +kernel
theorem boot_zip':bootBuiltins ("zip":Str)=some (.type "zip"):=by first | exact PyProof.Rows.Boot.«zip» | exact PySem.boot_zip | rfl | decide +kernel
def iEnum(K:PySem.W.Frag)(ta:TA):TI:=fun σ H R=>ta σ H fun vs H1=>∃ a,vs=[.ref a] /\ (∃ xs,SqL K H1 a xs) /\ R (Ite K a) H1
theorem pi_enum {X:Cx} {es:List Expr} {k:Nat} {tpos:Pos} {l:Expr} {ta:TA} {p pos:Pos} (hg:Gl X "enumerate") (hm:X.mg "enumerate"=none) (ha:PA X [l] ta) (hs:starEach [l] X.env=[(false,eval l X.env)]:=by rfl):PI X (.Tuple es k tpos) (.Call (.Name "enumerate" p) [l] [] pos) (iEnum X.K ta):=by
 intro pins s σ H R I h
 refine Call_ (ld_blt I hg hm boot_enum (PyProof.Rows.callWith_type1 (thn (ha pos pins s σ H _ I h) fun us s1 ⟨vs,H1,I1,r1,q1⟩=>?_) hs rfl))
 obtain ⟨a,e,⟨xs,hq⟩,q⟩:=q1
 subst e
 obtain ⟨u,rfl,ru⟩:=vals1 r1
 cases ru
 obtain ⟨its,rv,pl,hz⟩:=I1.list hq
 refine call_enumerate_list pl.isList fun h1 he hit hsz hk=>?_
 have I2:Inv X pins σ H1 { s1 with heap:=h1 }:=I1.kept (t':=s1.toks) hk
 refine wpAny_pyIter_enum he ⟨s1.heap.objs.size+1,[s1.heap.objs.size+1,s1.heap.objs.size],_,_,H1,rfl,I2,turn_enum a _ _ (Nat.ne_of_gt (Nat.lt_succ_self _)),⟨⟨_,he⟩,hit⟩,fun b hb=>?_,q⟩
 have hbl:s1.heap.objs.size <= b:=by
  rcases List.mem_cons.mp hb with z | hb
  ·rw [z];exact Nat.le_succ _
  ·rw [show b=s1.heap.objs.size by simpa using hb];exact Nat.le_refl _
 exact I1.fpOk hbl (I1.hok.fresh hbl)
def Itz(K:PySem.W.Frag)(a b:Addr):It:=
 ⟨fun i H=>∃ xs ys x y,SqL K H a xs /\ SqL K H b ys /\ xs[i]?=some x /\ ys[i]?=some y,
  fun i H v H'=>∃ t x y,v=.ref t /\ H t=none /\ H'=upd H t (.tup [x,y]) /\ (∀ xs,SqL K H a xs->xs[i]?=some x) /\ ∀ ys,SqL K H b ys->ys[i]?=some y,
  fun i H=>∃ xs ys,SqL K H a xs /\ SqL K H b ys /\ (xs.length <= i \/ ys.length <= i)⟩
theorem ap_of{i1 i2 TI TO z l1 l2:Nat}(h1:i1 < i2)(h2:i2 < TI)(h3:TI < TO)(h4:TO < z)(ha:l1 < i1)(hb:l2 < i1):ZipApart z TI TO i1 i2 l1 l2:=by
 refine ⟨?_,?_,?_,?_,?_,?_,?_,?_,?_,?_,?_,?_,?_,?_,?_,?_,?_,?_⟩<;>first | exact Nat.ne_of_lt (by omega) | exact Nat.ne_of_gt (by omega)
theorem turn_zip{P:Program}{w:World}{K:PySem.W.Frag}{es:List Expr}{k:Nat}{pos:Pos}(a b z TI TO i1 i2:Addr)(D:ZipApart z TI TO i1 i2 a b):
  Turn P w K (.Tuple es k pos) (Itz K a b) [z,TI,TO,i1,i2] z (fun i h=>IsZip h z TI TO .none /\ IsPair h TI (.ref i1) (.ref i2) /\ (∃ x y,IsPair h TO x y) /\ h.IsListIter i1 a i /\ h.IsListIter i2 b i) where
 mem:=by simp
 obj:=fun i h st c hb=>by
  obtain ⟨hz,hTI,⟨x,y,hTO⟩,⟨o1,e1,c1,d1⟩,o2,e2,c2,d2⟩:=st
  simp only [List.mem_cons,List.not_mem_nil,or_false] at hb
  rcases hb with rfl | rfl | rfl | rfl | rfl
  ·exact ⟨_,hz,fun v q=>by
    have q':Data.fields _=Data.cell v:=q
    cases q'⟩
  ·exact ⟨_,hTI,fun v q=>by
    have q':Data.seq _ _=Data.cell v:=q
    cases q'⟩
  ·exact ⟨_,hTO,fun v q=>by
    have q':Data.seq _ _=Data.cell v:=q
    cases q'⟩
  ·exact ⟨_,e1,fun v q=>by rw [d1] at q;cases q⟩
  ·exact ⟨_,e2,fun v q=>by rw [d2] at q;cases q⟩
 keep:=fun i h h' st k=>⟨k z (by simp) _ st.1,k TI (by simp) _ st.2.1,let ⟨x,y,q⟩:=st.2.2.1;⟨x,y,k TO (by simp) _ q⟩,st.2.2.2.1.at fun o q=>k i1 (by simp) o q,st.2.2.2.2.at fun o q=>k i2 (by simp) o q⟩
 item:=by
  intro X hP hw hK hc i pins s σ H E I hf st hg
  subst hP hw hK
  obtain ⟨xs,ys,x,y,hq1,hq2,hx,hy⟩:=hg
  obtain ⟨its1,rv1,p1,hz1⟩:=I.list hq1
  obtain ⟨its2,rv2,p2,hz2⟩:=I.list hq2
  obtain ⟨u1,hu1,ru1⟩:=rv1.get hx
  obtain ⟨u2,hu2,ru2⟩:=rv2.get hy
  obtain ⟨hz,hTI,⟨x0,y0,hTO⟩,hi1,hi2⟩:=st
  refine wpAny_pyNext_zip_item D hz hTI hTO hi1 hi2 p1.isList p2.isList (x:=u1) (y:=u2) (by simpa using hu1) (by simpa using hu2) fun h1 gz gTO g1 g2 gT gsz gk=>⟨_,rfl,?_⟩
  have lz:z < s.heap.objs.size:=Heap.lt_size hz
  have lT:∀ c∈[z,TI,TO,i1,i2],c < s.heap.objs.size:=fun c hb=>by
   simp only [List.mem_cons,List.not_mem_nil,or_false] at hb
   rcases hb with rfl | rfl | rfl | rfl | rfl
   ·exact lz
   ·exact Heap.lt_size hTI
   ·exact Heap.lt_size hTO
   ·obtain ⟨_,q,_⟩:=hi1;exact Heap.lt_size q
   ·obtain ⟨_,q,_⟩:=hi2;exact Heap.lt_size q
  refine wpAny_letOwnedTupleGo_zip gz fun h2 gz2 hs2=>?_
  refine ⟨.ref s.heap.objs.size,upd H s.heap.objs.size (.tup [x,y]),?_,rfl,⟨_,x,y,rfl,I.hok.fresh (Nat.le_refl _),rfl,fun vs hv=>by rw [I.list_inj hv hq1];exact hx,fun vs hv=>by rw [I.list_inj hv hq2];exact hy⟩,
   ⟨gz2,hs2.extBut _ _ D.TIz (gk _ _ D.TIz D.TITO D.TIi1 D.TIi2 hTI),⟨_,_,hs2.extBut _ _ D.TOz gTO⟩,g1.at fun o q=>hs2.extBut _ _ D.i1z q,g2.at fun o q=>hs2.extBut _ _ D.i2z q⟩,fun c hb=>?_⟩
  ·refine I.turnedLaid (ch:=[z,TI,TO,i1,i2]) hf (fun c ob hb q=>hs2.extBut _ _ (fun e=>hb (by simp [e])) (gk c ob (fun e=>hb (by simp [e])) (fun e=>hb (by simp [e])) (fun e=>hb (by simp [e])) (fun e=>hb (by simp [e])) q)) (Nat.le_refl _) ?_
   exact tup_new (us:=[u1,u2]) (.cons ru1 (.cons ru2 .nil)) (by show 2 <= sizeLine;decide) (hs2.extBut _ _ (Nat.ne_of_gt lz) gT)
  ·rw [upd_ne (Nat.ne_of_lt (lT c hb))]
   exact (hf c hb).1
 done:=by
  intro X hP hw hK hc i pins s σ H E I hf st hg
  subst hP hw hK
  obtain ⟨xs,ys,hq1,hq2,hx⟩:=hg
  obtain ⟨its1,rv1,p1,hz1⟩:=I.list hq1
  obtain ⟨its2,rv2,p2,hz2⟩:=I.list hq2
  obtain ⟨hz,hTI,⟨x0,y0,hTO⟩,hi1,hi2⟩:=st
  have hl1:=rv1.length
  have hl2:=rv2.length
  refine wpAny_pyNext_zip_end (I.ok.hd hc) D hz hTI hTO hi1 hi2 p1.isList p2.isList ?_ fun h1 eb=>⟨rfl,I.turnedAll (t':=s.toks) (ch:=[z,TI,TO,i1,i2]) hf fun c ob hb q=>eb c ob (fun e=>hb (by simp [e])) (fun e=>hb (by simp [e])) (fun e=>hb (by simp [e])) (fun e=>hb (by simp [e])) q⟩
  rcases hx with hx | hx
  ·exact .inl (by simp;omega)
  ·exact .inr (by simp;omega)
 self:=fun _ _ _ _ _ st h=>wpAny_pyIter_zip st.1 h
def iZip(K:PySem.W.Frag)(ta:TA):TI:=fun σ H R=>ta σ H fun vs H1=>∃ a b,vs=[.ref a,.ref b] /\ (∃ xs,SqL K H1 a xs) /\ (∃ ys,SqL K H1 b ys) /\ R (Itz K a b) H1
theorem pi_zip {X:Cx} {es:List Expr} {k:Nat} {tpos:Pos} {l m:Expr} {ta:TA} {p pos:Pos} (hg:Gl X "zip") (hm:X.mg "zip"=none) (ha:PA X [l,m] ta) (hs:starEach [l,m] X.env=[(false,eval l X.env),(false,eval m X.env)]:=by rfl) (hs2:starEach [m] X.env=[(false,eval m X.env)]:=by rfl):
  PI X (.Tuple es k tpos) (.Call (.Name "zip" p) [l,m] [] pos) (iZip X.K ta):=by
 intro pins s σ H R I h
 refine Call_ (ld_blt I hg hm boot_zip' (PyProof.Rows.callWith_type1 (thn (ha pos pins s σ H _ I h) fun us s1 ⟨vs,H1,I1,r1,q1⟩=>?_) (by rw [hs,hs2]) (by rw [hs2];rfl)))
 obtain ⟨a,b,e,⟨xs,hq1⟩,⟨ys,hq2⟩,q⟩:=q1
 subst e
 obtain ⟨u,w',rfl,ru,rw'⟩:=vals2 r1
 cases ru
 cases rw'
 obtain ⟨its1,rv1,p1,hz1⟩:=I1.list hq1
 obtain ⟨its2,rv2,p2,hz2⟩:=I1.list hq2
 have la:a < s1.heap.objs.size:=by obtain ⟨_,o,_⟩:=p1.isList;exact Heap.lt_size o
 have lb:b < s1.heap.objs.size:=by obtain ⟨_,o,_⟩:=p2.isList;exact Heap.lt_size o
 refine call_zip_2 p1.isList p2.isList fun h1 gz gTI gTO g1 g2 gsz hk=>?_
 have I2:Inv X pins σ H1 { s1 with heap:=h1 }:=I1.kept (t':=s1.toks) hk
 have D:ZipApart (s1.heap.objs.size+4) (s1.heap.objs.size+2) (s1.heap.objs.size+3) s1.heap.objs.size (s1.heap.objs.size+1) a b:=ap_of (i1:=s1.heap.objs.size) (Nat.lt_succ_self _) (Nat.lt_succ_self _) (Nat.lt_succ_self _) (Nat.lt_succ_self _) la lb
 refine wpAny_pyIter_zip gz ⟨s1.heap.objs.size+4,[s1.heap.objs.size+4,s1.heap.objs.size+2,s1.heap.objs.size+3,s1.heap.objs.size,s1.heap.objs.size+1],_,_,H1,rfl,I2,turn_zip a b _ _ _ _ _ D,⟨gz,gTI,⟨_,_,gTO⟩,g1,g2⟩,fun c hb=>?_,q⟩
 have hbl:s1.heap.objs.size <= c:=by
  simp only [List.mem_cons,List.not_mem_nil,or_false] at hb
  rcases hb with rfl | rfl | rfl | rfl | rfl<;>first | exact Nat.le_refl _ | exact Nat.le_add_right _ _
 exact I1.fpOk hbl (I1.hok.fresh hbl)
theorem for_enum{K:PySem.W.Frag}{a:Addr}{xs:List V}{g:TG}{tb:TS}{D:Ends}{σ:St}{H:Hp}(Pv:Nat->St->Hp->Prop)(h0:Pv 0 σ H)(hl:∀ i σ H,i <= xs.length->Pv i σ H->SqL K H a xs)
  (hs:∀ i x t σ H,xs[i]?=some x->Pv i σ H->H t=none->g (.ref t) σ (upd H t (.tup [.int i,x])) fun σ2 H2=>tb { D with nx:=Pv (i+1),ct:=Pv (i+1),bk:=D.nx } σ2 H2) (hd:∀ σ H,Pv xs.length σ H->D.nx σ H):
  ∃ W:Nat->Nat->St->Hp->Prop,(∃ m,W 0 m σ H) /\ ∀ i m σ H,W i m σ H->
   ((Ite K a).stop i H /\ D.nx σ H) \/ ((Ite K a).go i H /\ ∃ N:St->Hp->Prop,(∀ σ' H',N σ' H'->∃ m',m' < m /\ W (i+1) m' σ' H') /\ ∀ x H',(Ite K a).yld i H x H'->g x σ H' fun σ2 H2=>tb { D with nx:=N,ct:=N,bk:=D.nx } σ2 H2):=by
 refine ⟨fun i m σ H=>m=xs.length - i /\ i <= xs.length /\ Pv i σ H,⟨xs.length,by simp,Nat.zero_le _,h0⟩,?_⟩
 rintro i m σ H ⟨rfl,hi,p⟩
 have q:=hl i σ H hi p
 by_cases hlt:i < xs.length
 ·refine .inr ⟨⟨xs,xs[i],q,by simp [hlt]⟩,Pv (i+1),fun σ' H' p'=>⟨xs.length - (i+1),by omega,rfl,hlt,p'⟩,fun x H' y=>?_⟩
  obtain ⟨t,z,rfl,hn,rfl,y⟩:=y
  exact hs i z t σ H (y xs q) p hn
 ·have e:i=xs.length:=by omega
  subst e
  exact .inl ⟨⟨xs,q,Nat.le_refl _⟩,hd σ H p⟩
theorem turns_zip{K:PySem.W.Frag}{a b p:Addr}{xs ys:List V}{g:TG}{tst:TT}{te:TE}{Q:Hp->Prop}{σ:St}{H:Hp}(Pv:Nat->St->Hp->Prop)(h0:Pv 0 σ H)(hl:∀ i σ H,Pv i σ H->SqL K H a xs /\ SqL K H b ys)
  (hs:∀ i x y t σ H,xs[i]?=some x->ys[i]?=some y->Pv i σ H->H t=none->g (.ref t) σ (upd H t (.tup [x,y])) fun σ2 H2=>tst σ2 H2 fun c H3=>if c=true then te σ2 H3 fun y H4=>∃ zs,H4 p=some (.lst zs) /\ zs.length < sizeLine /\ Pv (i+1) σ2 (upd H4 p (.lst (zs++[y]))) else Pv (i+1) σ2 H3)
  (hd:∀ σ H,Pv (min xs.length ys.length) σ H->Q H):Turns (Itz K a b) g tst te p Q σ H:=by
 refine ⟨fun i m σ H=>m=min xs.length ys.length - i /\ i <= min xs.length ys.length /\ Pv i σ H,⟨min xs.length ys.length,by simp,Nat.zero_le _,h0⟩,?_⟩
 rintro i m σ H ⟨rfl,hi,p⟩
 obtain ⟨q1,q2⟩:=hl i σ H p
 by_cases hlt:i < min xs.length ys.length
 ·have l1:i < xs.length:=by omega
  have l2:i < ys.length:=by omega
  refine .inr ⟨⟨xs,ys,xs[i],ys[i],q1,q2,by simp [l1],by simp [l2]⟩,Pv (i+1),fun σ' H' p'=>⟨min xs.length ys.length - (i+1),by omega,rfl,hlt,p'⟩,fun x H' y=>?_⟩
  obtain ⟨t,z,z',rfl,hn,rfl,y1,y2⟩:=y
  exact hs i z z' t σ H (y1 xs q1) (y2 ys q2) p hn
 ·have e:i=min xs.length ys.length:=by omega
  subst e
  exact .inl ⟨⟨xs,ys,q1,q2,by omega⟩,hd σ H p⟩
end L2
namespace L2
open PySem PySem.Spec PyProof.Rows
section
variable {X:Cx}
theorem bools_at{bs:List Bool}{us:List Value}(r:Vals (bs.map V.bl) us){i:Nat}{v:Value}(e:us[i]?=some v):∃ b,bs[i]?=some b /\ v=.bool b:=by
 have hi:i < us.length:=(List.getElem?_eq_some_iff.mp e).1
 have hb:i < bs.length:=by
  have:=r.length
  rw [List.length_map] at this
  omega
 obtain ⟨u,hu,ru⟩:=r.get (i:=i) (x:=.bl bs[i]) (by rw [List.getElem?_map,List.getElem?_eq_getElem hb];rfl)
 rw [e] at hu
 cases hu
 exact ⟨bs[i],List.getElem?_eq_getElem hb,ru⟩
theorem range_any(bs:List Bool):(List.range bs.length).any (fun i=>bs.getD i false)=bs.any id:=by
 rw [Bool.eq_iff_iff]
 simp only [List.any_eq_true,List.mem_range,id_eq]
 constructor
 ·rintro ⟨i,hi,e⟩
  exact ⟨bs[i],List.getElem_mem hi,by simpa [List.getD_eq_getElem?_getD,hi] using e⟩
 ·rintro ⟨b,hb,e⟩
  obtain ⟨i,hi,q⟩:=List.mem_iff_getElem.mp hb
  exact ⟨i,hi,by simp [List.getD_eq_getElem?_getD,hi,q,e]⟩
theorem handled_in1{A:Around}(h:A.handled=none):A.in1.handled=none:=h
theorem walk_bools{pins:List (Addr × Obj)}{σ:St}{H:Hp}{s:Shared}{p:Addr}{bs:List Bool}{E:Value->Shared->Prop}{R:Nat->(Nat->Bool)->Value->Shared->Prop}(hc:X.calm=true)(I:Inv X pins σ H s)(hq:SqL X.K H p (bs.map V.bl))
  (fin:∀ (It:Addr) (fp wr:List Addr) (P:Nat->Value->Prop) (St:Nat->Heap->Prop) (s2:Shared),Walks X.prog X.w X.A.in1 It fp wr bs.length P St->St 0 s2.heap->TruthOf X.prog X.w X.A.in1 P (fun i=>bs.getD i false)->
   (∀ h' tk,(∀ b o,b∉wr->s2.heap.get? b=some o->h'.get? b=some o)->Inv X pins σ H { s2 with heap:=h',toks:=tk })->R bs.length (fun i=>bs.getD i false) (.ref It) s2):
  wpAny (model X.prog X.w) X.A.in1 (pyIter (.ref p)) (fun it s2=>R bs.length (fun i=>bs.getD i false) it s2) E s:=by
 obtain ⟨its,rv,pl,hz⟩:=I.list hq
 refine wpAny_pyIter_list pl.isList ?_
 have lp:p < s.heap.objs.size:=by obtain ⟨_,o,_⟩:=pl.isList;exact Heap.lt_size o
 have hlen:its.toArray.size=bs.length:=by rw [List.size_toArray,<- rv.length,List.length_map]
 have W:=Walks.list (prog:=X.prog) (w:=X.w) (A:=X.A.in1) (handled_in1 (I.ok.hd hc)) s.heap.objs.size p (Nat.ne_of_lt lp) its.toArray
 rw [hlen] at W
 refine fin _ _ _ _ _ _ W ⟨⟨_,Heap.get?_push_size _ rfl,rfl,rfl⟩,pl.isList.push _⟩ (fun i v s' Q' E' hP hQ=>?_) (fun h' tk hk=>?_)
 ·obtain ⟨b,hb,rfl⟩:=bools_at (i:=i) (v:=v) rv (by simpa using hP)
  refine wpAny_truthy_bool ?_
  have:bs.getD i false=b:=by rw [List.getD_eq_getElem?_getD,hb];rfl
  simpa only [this] using hQ
 ·refine I.kept (t':=tk) fun b o e=>hk b o (fun z=>?_) (Heap.get?_push_of_some _ e)
  have:b=s.heap.objs.size:=by simpa using z
  exact absurd (Heap.lt_size e) (by rw [this];exact Nat.lt_irrefl _)
theorem call_anyB(hc:X.calm=true):CallR X (.builtin "any") (fun xs H Q=>∃ (p:Addr) (bs:List Bool),xs=[.ref p] /\ SqL X.K H p (bs.map V.bl) /\ Q (.bl (bs.any id)) H):=by
 intro pins s σ H xs us Q I r h
 obtain ⟨p,bs,rfl,hq,q⟩:=h
 obtain ⟨u,rfl,ru⟩:=vals1 r
 cases ru
 refine call_any_walk (walk_bools hc I hq (R:=fun n tr it s2=>∃ It fp wr n P St tr,it=.ref It /\ Walks X.prog X.w X.A.in1 It fp wr n P St /\ St 0 s2.heap /\ TruthOf X.prog X.w X.A.in1 P tr /\
  ∀ h' tk,(∀ b o,b∉wr->s2.heap.get? b=some o->h'.get? b=some o)->EP X pins σ Q (.bool ((List.range n).any tr)) { s2 with heap:=h',toks:=tk }) ?_)
 intro It fp wr P St s2 W st tr k
 refine ⟨It,fp,wr,_,P,St,_,rfl,W,st,tr,fun h' tk hk=>?_⟩
 rw [range_any]
 exact ⟨.bl (bs.any id),H,k h' tk hk,rfl,q⟩
theorem call_sumI(hc:X.calm=true):CallR X (.builtin "sum") (fun xs H Q=>∃ (p:Addr) (ns:List Int),xs=[.ref p] /\ SqL X.K H p (ns.map V.int) /\ Q (.int ns.sum) H):=by
 intro pins s σ H xs us Q I r h
 obtain ⟨p,ns,rfl,hq,q⟩:=h
 obtain ⟨u,rfl,ru⟩:=vals1 r
 cases ru
 obtain ⟨its,rv,pl,_⟩:=I.list hq
 have hi:=intsAre_of rv
 obtain ⟨ys,hys⟩:=hi.allInts.items
 refine sum_intListG (I.ok.hd hc) (xs:=ys) (by rw [<- hys];exact pl.isList) fun h' tk t' hk=>?_
 refine ⟨.int ns.sum,H,I.kept (t':=tk) hk,?_,q⟩
 have e1:(numsOf its.toArray.toList).sum=ns.sum:=by rw [show its.toArray.toList=its from rfl,hi.numsOf]
 rw [hys,nums_intItems] at e1
 rw [preSum_eq,List.take_of_length_le (by simp),<- e1]
 exact ⟨t',rfl⟩
theorem call_isinst:CallR X (.builtin "isinstance") (fun xs H Q=>∃ x c cv t b,xs=[x,c] /\ RelV c cv /\ (∀ u,RelV c u->u=cv) /\ TyOf X.K H x t /\ kitOne X.K t cv=some b /\ Q (.bl b) H):=by
 intro pins s σ H xs us Q I r h
 obtain ⟨x,c,cv,t,b,rfl,rc,inj,ty,e,q⟩:=h
 obtain ⟨u,w',rfl,ru,rw'⟩:=vals2 r
 cases inj w' rw'
 exact isinst_ok I ru ty e fun tk=>⟨.bl b,H,I.tok tk,rfl,q⟩
theorem ty_inj{n:String}:∀ u,RelV (.ty n) u->u=.type n:=fun _ h=>h
theorem ref_inj{a:Addr}:∀ u,RelV (.ref a) u->u=.ref a:=fun _ h=>h
def rCatT'(K:PySem.W.Frag):R2:=fun x y H Q=>∃ a b xs ys,x=.ref a /\ y=.ref b /\ SqT K H a xs /\ SqT K H b ys /\ xs.length+ys.length <= sizeLine /\
 (xs=[]->Q (.ref b) H) /\ (xs≠[]->ys=[]->Q (.ref a) H) /\ (xs≠[]->ys≠[]->∀ p,H p=none->Q (.ref p) (upd H p (.tup (xs++ys))))
theorem op_catT':OpR X (binaryOp .Add) (rCatT' X.K):=by
 intro pins s σ H x y v u Q I rx ry h
 obtain ⟨a,b,xs,ys,rfl,rfl,ha,hb,hz,q0,q1,q2⟩:=h
 by_cases hx:xs=[]
 ·cases rx
  cases ry
  obtain ⟨its,r1,p1,_⟩:=I.tuple ha
  obtain ⟨its2,r2,p2,_⟩:=I.tuple hb
  obtain ⟨m,F⟩:=I.fr
  have hv:its=[]:=r1.nil_iff.mpr hx
  refine add_tuples (news:=[]) F (fun q hq=>by cases hq) p1 p2 (fun _=>⟨.ref b,H,I,rfl,q0 hx⟩) (fun z=>absurd hv z) (fun z=>absurd hv z) (by rw [<- r1.length,<- r2.length];exact hz)
 ·exact op_catT pins s σ H _ _ v u Q I rx ry ⟨a,b,xs,ys,rfl,rfl,ha,hb,hx,hz,q1 hx,q2 hx⟩
end
open PySem.W (Dat) in
mutual
inductive DV(K:PySem.W.Frag)(H:Hp):V->PySem.W.Dat->Prop
 | non:DV K H .non .none
 | int (i:Int):DV K H (.int i) (.int i)
 | str (x:Str):DV K H (.str x) (.str x)
 | lst {a:Addr} {xs:List V} {ds:List PySem.W.Dat}:SqL K H a xs->DVs K H xs ds->DV K H (.ref a) (.list ds)
 | tup {a:Addr} {xs:List V} {ds:List PySem.W.Dat}:SqT K H a xs->DVs K H xs ds->DV K H (.ref a) (.tuple ds)
inductive DVs(K:PySem.W.Frag)(H:Hp):List V->List PySem.W.Dat->Prop
 | nil:DVs K H [] []
 | cons {x:V} {d:PySem.W.Dat} {xs:List V} {ds:List PySem.W.Dat}:DV K H x d->DVs K H xs ds->DVs K H (x :: xs) (d :: ds)
end
section
variable {X:Cx} {pins:List (Addr × Obj)} {σ:St} {H:Hp} {s:Shared}
mutual
theorem DV.reads(I:Inv X pins σ H s):∀ {x:V} {d:PySem.W.Dat} {u:Value},DV X.K H x d->RelV x u->∃ as,Reads s.heap u (kqdP d) as
 | _,_,_,.non,r=>by cases r;exact ⟨_,Reads.none⟩
 | _,_,_,.int i,r=>by obtain ⟨t,rfl⟩:=r;exact ⟨_,Reads.int i t⟩
 | _,_,_,.str x,r=>by obtain ⟨t,rfl⟩:=r;exact ⟨_,Reads.str x t⟩
 | _,_,_,.lst hq hd,r=>by
  cases r
  obtain ⟨its,rv,pl,_⟩:=I.list hq
  obtain ⟨as,q⟩:=DVs.reads I hd rv
  obtain ⟨o,ho,hc,n,hd'⟩:=pl.isList
  rw [kqdP]
  exact ⟨_,reads_list_at ho hc hd' (by simpa using q)⟩
 | _,_,_,.tup hq hd,r=>by
  cases r
  obtain ⟨its,rv,pl,_⟩:=I.tuple hq
  obtain ⟨as,q⟩:=DVs.reads I hd rv
  obtain ⟨o,ho,hc,n,hd'⟩:=pl
  rw [kqdP]
  exact ⟨_,reads_tuple_at ho hc hd' (by simpa using q)⟩
theorem DVs.reads(I:Inv X pins σ H s):∀ {xs:List V} {ds:List PySem.W.Dat} {us:List Value},DVs X.K H xs ds->Vals xs us->∃ as,ReadsAll s.heap us (PySem.W.kqdPs ds) as
 | _,_,_,.nil,r=>by cases r;exact ⟨_,ReadsAll.nil⟩
 | _,_,_,.cons hd t,r=>by
  cases r with
  | cons r1 r2=>
   obtain ⟨as,q⟩:=DV.reads I hd r1
   obtain ⟨bs,p⟩:=DVs.reads I t r2
   rw [PySem.W.kqdPs]
   exact ⟨_,ReadsAll.cons q p⟩
end
open Classical in
def rEqD(K:PySem.W.Frag):R2:=fun x y H Q=>∃ d e,DV K H x d /\ DV K H y e /\ kqdOk 9 d=true /\ kqdOk 9 e=true /\ Q (.bl (decide (d=e))) H
open Classical in
def rNeD(K:PySem.W.Frag):R2:=fun x y H Q=>∃ d e,DV K H x d /\ DV K H y e /\ kqdOk 9 d=true /\ kqdOk 9 e=true /\ Q (.bl (!decide (d=e))) H
open Classical in
theorem eqv_dec{d e:PySem.W.Dat}(h1:kqdOk 9 d=true)(h2:kqdOk 9 e=true):PyData.eqv (kqdP d) (kqdP e)=decide (d=e):=by
 have q:=PySem.W.kqd_eqv 9 d e 9 h1 h2
 by_cases hq:d=e
 ·rw [decide_eq_true hq];exact q.mpr hq
 ·rw [decide_eq_false hq];exact Bool.eq_false_iff.mpr fun z=>hq (q.mp z)
theorem shaped_of{d:PySem.W.Dat}(h:kqdOk 9 d=true):SeqAt.shaped (kqdP d)=true:=by
 have l:=PySem.W.kqd_lay 9 d h
 unfold SeqAt.shaped
 rw [l.1,Bool.true_and]
 exact decide_eq_true (Nat.le_trans l.2 (by decide))
theorem op_eqD(hu:X.A.units+64 < cLine):OpR X (compareOp .Eq) (rEqD X.K):=by
 intro pins s σ H x y v u Q I rx ry h
 obtain ⟨d,e,hd,he,k1,k2,q⟩:=h
 obtain ⟨as,ra⟩:=hd.reads I rx
 obtain ⟨bs,rb⟩:=he.reads I ry
 refine eq_dataH ra rb (shaped_of k1) (shaped_of k2) hu ?_
 rw [eqv_dec k1 k2]
 exact ⟨.bl _,H,I,rfl,q⟩
theorem op_neD(hu:X.A.units+64 < cLine):OpR X (compareOp .NotEq) (rNeD X.K):=by
 intro pins s σ H x y v u Q I rx ry h
 obtain ⟨d,e,hd,he,k1,k2,q⟩:=h
 obtain ⟨as,ra⟩:=hd.reads I rx
 obtain ⟨bs,rb⟩:=he.reads I ry
 refine ne_dataH ra rb (shaped_of k1) (shaped_of k2) hu ?_
 rw [eqv_dec k1 k2]
 exact ⟨.bl _,H,I,rfl,q⟩
end
end L2
namespace L2
open PySem PySem.Spec PyProof.Rows
section
variable {X:Cx}
def rAddU(K:PySem.W.Frag):R2:=fun x y H Q=>rI0 (fun i j=>.int (i+j)) x y H Q \/ rCat x y H Q \/ rCatT' K x y H Q \/ (∃ i j,x=.str i /\ y=.str j /\ i.length+j.length <= sizeLine /\ Q (.str (i++j)) H)
theorem op_addU:OpR X (binaryOp .Add) (rAddU X.K):=OpR.or op_add (OpR.or op_cat (OpR.or op_catT' op_add_str))
def rMulU:R2:=fun x y H Q=>rI CMul (fun i j=>.int (i*j)) x y H Q \/ rRep x y H Q
theorem op_mulU:OpR X (binaryOp .Mult) rMulU:=OpR.or op_mul op_rep
def rEqU(K:PySem.W.Frag):R2:=fun x y H Q=>rEq x y H Q \/ rEqD K x y H Q
theorem op_eqU(hu:X.A.units+64 < cLine):OpR X (compareOp .Eq) (rEqU X.K):=OpR.or op_eq (op_eqD hu)
def rNeU(K:PySem.W.Frag):R2:=fun x y H Q=>rNe x y H Q \/ rNeD K x y H Q
theorem op_neU(hu:X.A.units+64 < cLine):OpR X (compareOp .NotEq) (rNeU X.K):=OpR.or op_ne (op_neD hu)
def rIxLT(K:PySem.W.Frag):R2:=fun x y H Q=>rIxL K x y H Q \/ rIxT K x y H Q
theorem ix_LT:IxR X (rIxLT X.K):=IxR.or ix_list ix_tup
def rPopU:V->List V->Hp->VK->Prop:=fun x vs H Q=>rPop x vs H Q \/ rPopAt x vs H Q
theorem mt_popU:MtR X "list.pop" rPopU:=MtR.or mt_pop mt_popAt
end
structure Ctr(P:Program)(w:World)(K:PySem.W.Frag)(mg:Str->Option Value)(base:Heap)(CX:CXT)(k:Nat)(x:Str)(ps:List Str)(sp:Sp):Prop where
 ex:∃ f fd,FnOk P w K mg base CX k f fd ps sp /\ mg x=some (.ref f) /\ keepIn K (.ref f)=true /\ Binds K fd ps []
structure CtrM(P:Program)(w:World)(K:PySem.W.Frag)(mg:Str->Option Value)(base:Heap)(CX:CXT)(k:Nat)(C:Addr)(m:Str)(ps:List Str)(sp:Sp):Prop where
 cl:Cls K C
 ex:∃ f fd,FnOk P w K mg base CX k f fd ps sp /\ Meth K C m f /\ Binds K fd ps []
structure CtrC(P:Program)(w:World)(K:PySem.W.Frag)(mg:Str->Option Value)(base:Heap)(CX:CXT)(k:Nat)(x:Str)(C:Addr)(ps:List Str)(sp:Sp):Prop where
 at_:mg x=some (.ref C)
 ex:∃ f fd,FnOk P w K mg base CX k f fd ps sp /\ Mk K C f /\ Binds K fd ps []
section
variable {X:Cx} {CX:CXT} {k:Nat} {C:Addr} {ps:List Str} {sp:Sp} {E:XK} {x m:Str} {p pos apos:Pos} {e o:Expr} {es:List Expr} {ta:TE} {t:TA}
theorem pe_callCE (c:Ctr X.prog X.w X.K X.mg X.base CX k x ps sp) (hr:Room k X.A) (hg:Gl X x) (ha:PA X (e :: es) t) (hx:Passes CX X E) (hdb:(x==("__debug__":Str))=false:=by decide)
  (he:starEach (e :: es) X.env=(false,eval e X.env) :: starEach es X.env:=by rfl) (hpl:(backTo pos (starEach es X.env)).any (·.1)=false:=by rfl):PE X (.Call (.Name x p) (e :: es) [] pos) (tCall sp [] E t):=by
 obtain ⟨f,fd,F,hm,hk,hb⟩:=c.ex
 exact pe_call F hr hg hm hk hb .nil hx ha hdb he hpl
theorem pe_callC (c:Ctr X.prog X.w X.K X.mg X.base CX0 k x ps sp) (hr:Room k X.A) (hg:Gl X x) (ha:PA X (e :: es) t) (hdb:(x==("__debug__":Str))=false:=by decide)
  (he:starEach (e :: es) X.env=(false,eval e X.env) :: starEach es X.env:=by rfl) (hpl:(backTo pos (starEach es X.env)).any (·.1)=false:=by rfl):PE X (.Call (.Name x p) (e :: es) [] pos) (tCall sp [] E0 t):=
 pe_callCE c hr hg ha pass0 hdb he hpl
theorem pe_methC{pl:Sem Bool}(he:PE X o ta)(c:CtrM X.prog X.w X.K X.mg X.base CX0 k C m ps sp)(hr:Room k X.A)(ha:PA X (e :: es) t)
  (hst:starEach (e :: es) X.env=(false,eval e X.env) :: starEach es X.env:=by rfl) (hpl:(backTo pos (starEach es X.env)).any (·.1)=false:=by rfl)
  (ht:eval (.Call (.Attribute o m apos) (e :: es) [] pos) X.env=(do
   let ov <- eval o X.env
   standAt apos.atName
   let (f,first) <- holding [ov] (getMethod ov m pl)
   callWith pos f first (backTo pos (starEach (e :: es) X.env)) (backToKw pos (keywordEach [] X.env))):=by rfl):
  PE X (.Call (.Attribute o m apos) (e :: es) [] pos) (tMeth C m sp [] E0 ta t):=by
 obtain ⟨f,fd,F,hm,hb⟩:=c.ex
 exact pe_meth (pl:=pl) he c.cl hm F hr hb .nil pass0 ha hst hpl ht
theorem pe_methC0{pl:Sem Bool}(he:PE X o ta)(c:CtrM X.prog X.w X.K X.mg X.base CX0 k C m ps sp)(hr:Room k X.A)
  (ht:eval (.Call (.Attribute o m apos) [] [] pos) X.env=(do
   let ov <- eval o X.env
   standAt apos.atName
   let (f,first) <- holding [ov] (getMethod ov m pl)
   callWith pos f first (backTo pos (starEach [] X.env)) (backToKw pos (keywordEach [] X.env))):=by rfl):
  PE X (.Call (.Attribute o m apos) [] [] pos) (tMeth C m sp [] E0 ta tNil):=by
 obtain ⟨f,fd,F,hm,hb⟩:=c.ex
 exact pe_meth0 (pl:=pl) he c.cl hm F hr hb .nil pass0 ht
theorem pe_makeC (c:CtrC X.prog X.w X.K X.mg X.base CX0 k x C ps sp) (hr:Room (k+1) X.A) (hg:Gl X x) (ha:PA X (e :: es) t) (hdb:(x==("__debug__":Str))=false:=by decide)
  (he:starEach (e :: es) X.env=(false,eval e X.env) :: starEach es X.env:=by rfl) (hpl:(backTo pos (starEach es X.env)).any (·.1)=false:=by rfl):
  PE X (.Call (.Name x p) (e :: es) [] pos) (tMake C sp [] E0 t):=by
 obtain ⟨f,fd,F,hm,hb⟩:=c.ex
 exact pe_make hm F hr hg c.at_ hb .nil pass0 ha hdb he hpl
end
theorem pe_tyN {X:Cx} {x:Str} {n:String} {pos:Pos} (hg:Gl X x) (hm:X.mg x=none) (hv:bootBuiltins x=some (.type n)) (hn:x ≠ "__name__":=by decide) (hd:(x==("__debug__":Str))=false:=by decide):PE X (.Name x pos) (tC (.ty n)):=
 pe_bltn (v:=.ty n) hg hm hv rfl hn hd
theorem pe_clsN {X:Cx} {x:Str} {C:Addr} {pos:Pos} (hg:Gl X x) (hm:X.mg x=some (.ref C)) (hd:(x==("__debug__":Str))=false:=by decide):PE X (.Name x pos) (tC (.ref C)):=pe_glob (v:=.ref C) hg hm rfl hd
theorem upd_get{H:Hp}{a b:Addr}{o u:HO}(h:H b=some u)(ha:H a=none):upd H a o b=some u:=by rw [upd_ne (ne_of_none h ha)];exact h
theorem Same.upd{H:Hp}{a:Addr}{o:HO}(h:H a=none):Same H (L2.upd H a o):=fun b u e=>upd_get e h
end L2
namespace L2
open PySem PySem.Spec PyProof.Rows
section
variable {X:Cx} {K:PySem.W.Frag} {a b c e o l value:Expr} {es:List Expr} {ta tb te tl tv to:TE} {t:TA} {f name:Str} {pos pos' p apos cpos tpos:Pos} {T id:String} {r:V->List V->Hp->VK->Prop}
theorem op_addK(hK:X.K=K):OpR X (binaryOp .Add) (rAddU K):=by subst hK;exact op_addU
theorem op_eqK(hK:X.K=K)(hu:X.A.units+64 < cLine):OpR X (compareOp .Eq) (rEqU K):=by subst hK;exact op_eqU hu
theorem op_neK(hK:X.K=K)(hu:X.A.units+64 < cLine):OpR X (compareOp .NotEq) (rNeU K):=by subst hK;exact op_neU hu
theorem ix_K(hK:X.K=K):IxR X (rIxLT K):=by subst hK;exact ix_LT
theorem sl_K(hK:X.K=K):SlR X (rSlL K):=by subst hK;exact sl_list
theorem pe_fldK(hK:X.K=K)(he:PE X e ta)(hb:attributeBase e f X.env (eval e X.env)=eval e X.env):PE X (.Attribute e f pos) (tFld K ta f):=by subst hK;exact pe_fld he hb
theorem ps_fldK(hK:X.K=K)(ha:PE X o ta)(hv:PE X value tv)(hs:swapsWith value (some (.Attribute o f pos')) pos.line X.env=pure false):PS X (.Assign [.Attribute o f pos'] value pos) (sFld K ta tv f):=by subst hK;exact ps_fld ha hv hs
theorem ps_fldaugK{op:Operator}{rd:V->V->Hp->VK->Prop}(hK:X.K=K)(ha:PE X o ta)(hv:PE X value tv)(hop:InOp X op rd):PS X (.AugAssign (.Attribute o f tpos) op value pos) (sFldAug K ta tv rd f):=by subst hK;exact ps_fldaug ha hv hop
theorem pi_listK{tg:Expr}(hK:X.K=K)(hl:PE X l tl):PI X tg l (iList K tl):=by subst hK;exact pi_list hl
theorem pi_enumK {k:Nat} (hK:X.K=K) (hg:Gl X "enumerate") (hm:X.mg "enumerate"=none) (ha:PA X [l] t) (hs:starEach [l] X.env=[(false,eval l X.env)]:=by rfl):PI X (.Tuple es k tpos) (.Call (.Name "enumerate" p) [l] [] pos) (iEnum K t):=by subst hK;exact pi_enum hg hm ha hs
theorem pi_zipK {k:Nat} {m:Expr} (hK:X.K=K) (hg:Gl X "zip") (hm:X.mg "zip"=none) (ha:PA X [l,m] t) (hs:starEach [l,m] X.env=[(false,eval l X.env),(false,eval m X.env)]:=by rfl) (hs2:starEach [m] X.env=[(false,eval m X.env)]:=by rfl):
  PI X (.Tuple es k tpos) (.Call (.Name "zip" p) [l,m] [] pos) (iZip K t):=by subst hK;exact pi_zip hg hm ha hs hs2
theorem pg_tupK{k n:Nat}{ts:TGs}(hK:X.K=K)(hc:X.calm=true)(h:PGs X es ts)(hn:(assignEach es X.env).length=n:=by rfl)(hst:(assignEach es X.env).findIdx? (·.1)=none:=by rfl):PG X (.Tuple es k pos) (gTup K n ts):=by
 subst hK;exact pg_tup hc h hn hst
theorem pe_bmK0 (hK:X.K=K) (pa:PlainAttrs T) (slot:Slot T name id) (hty:typeOf (.builtin id)=pure (.type "method_descriptor")) (hm:MtR X id r) (ho:PE X o to)
  (hbase:attributeBase o name X.env (eval o X.env)=eval o X.env:=by rfl) (hline:(apos.endLine==cpos.line)=true:=by rfl):PE X (.Call (.Attribute o name apos) [] [] cpos) (tBM0 K T r to):=by subst hK;exact pe_bm0 pa slot hty hm ho hbase hline
theorem callK_len(hK:X.K=K):CallR X (.builtin "len") (fun xs H Q=>∃ x n,xs=[x] /\ LenV K x H n /\ Q (.int n) H):=by subst hK;exact call_len
theorem callK_list(hK:X.K=K):CallR X (.type "list") (fun xs H Q=>∃ p ys,xs=[.ref p] /\ (SqL K H p ys \/ SqT K H p ys) /\ ∀ l,H l=none->Q (.ref l) (upd H l (.lst ys))):=by subst hK;exact call_list_of
theorem callK_any(hK:X.K=K)(hc:X.calm=true):CallR X (.builtin "any") (fun xs H Q=>∃ (p:Addr) (bs:List Bool),xs=[.ref p] /\ SqL K H p (bs.map V.bl) /\ Q (.bl (bs.any _root_.id)) H):=by subst hK;exact call_anyB hc
theorem callK_sum(hK:X.K=K)(hc:X.calm=true):CallR X (.builtin "sum") (fun xs H Q=>∃ (p:Addr) (ns:List Int),xs=[.ref p] /\ SqL K H p (ns.map V.int) /\ Q (.int ns.sum) H):=by subst hK;exact call_sumI hc
theorem callK_isinstance(hK:X.K=K):CallR X (.builtin "isinstance") (fun xs H Q=>∃ x c cv t b,xs=[x,c] /\ RelV c cv /\ (∀ u,RelV c u->u=cv) /\ TyOf K H x t /\ kitOne K t cv=some b /\ Q (.bl b) H):=by subst hK;exact call_isinst
theorem pt_truK(hK:X.K=K)(ha:PE X a ta)(he:∀ whole,isTrue a X.env whole=(do let v <- whole;standAt a.pos;holding [v] (truthy v))):PT X a (fun σ H Q=>ta σ H fun x H'=>∃ k,TruV K x H' k /\ Q k H'):=by subst hK;exact pt_truth ha he
end
section
variable {X:Cx} {K:PySem.W.Frag} {o e:Expr} {es:List Expr} {to:TE} {t:TA} {name:Str} {apos cpos:Pos} {T id:String} {r:V->List V->Hp->VK->Prop}
theorem pe_bmK (hK:X.K=K) (pa:PlainAttrs T) (slot:Slot T name id) (hty:typeOf (.builtin id)=pure (.type "method_descriptor")) (hm:MtR X id r) (ho:PE X o to) (ha:PA X (e :: es) t)
  (hbase:attributeBase o name X.env (eval o X.env)=eval o X.env:=by rfl)
  (hfew:((backTo cpos (starEach (e :: es) X.env)).all (fun x=>!x.1)&&(backToKw cpos (keywordEach [] X.env)).all (fun x=>x.1.isSome)
   && decide ((e :: es).length+([]:List Keyword).length+(if ([]:List Keyword).isEmpty then 0 else 1) < 30))=true:=by rfl)
  (hline:(apos.endLine==cpos.line)=true:=by rfl) (hs:starEach (e :: es) X.env=(false,eval e X.env) :: starEach es X.env:=by rfl) (hplain:(backTo cpos (starEach es X.env)).any (·.1)=false:=by rfl):
  PE X (.Call (.Attribute o name apos) (e :: es) [] cpos) (tBM K T r to t):=by subst hK;exact pe_bm pa slot hty hm ho ha hbase hfew hline hs hplain
end
end L2
namespace L2
open PySem PySem.Spec PyProof.Rows
theorem cutV_from(xs:List V)(k:Nat):cutV xs (some (k:Int)) none=xs.drop k:=by
 unfold cutV
 rw [HT.sIx_nat,HT.sIx_none]
 by_cases h:k <= xs.length
 ·rw [Nat.min_eq_left h,List.take_of_length_le (by simp)]
 ·rw [Nat.min_eq_right (by omega),List.drop_of_length_le (Nat.le_refl _),List.drop_of_length_le (by omega),List.take_nil]
theorem cutV_to(xs:List V)(k:Nat):cutV xs none (some (k:Int))=xs.take k:=by
 unfold cutV
 rw [HT.sIx_nat,HT.sIx_none]
 simp only [List.drop_zero,Nat.sub_zero]
 by_cases h:k <= xs.length
 ·rw [Nat.min_eq_left h]
 ·rw [Nat.min_eq_right (by omega),List.take_of_length_le (Nat.le_refl _),List.take_of_length_le (by omega)]
def adj(ns:List Int):List Bool:=(ns.zip (ns.drop 1)).map fun p=>decide (p.1=p.2)
theorem adj_len(ns:List Int):(adj ns).length=min ns.length (ns.length - 1):=by
 unfold adj
 rw [List.length_map,List.length_zip,List.length_drop]
theorem adj_cons(a b:Int)(r:List Int):adj (a :: b :: r)=decide (a=b) :: adj (b :: r):=by
 unfold adj
 simp
theorem adj_get{ns:List Int}{i:Nat}{x y:Int}(hx:ns[i]?=some x)(hy:(ns.drop 1)[i]?=some y):(adj ns)[i]?=some (decide (x=y)):=by
 unfold adj
 rw [List.getElem?_map,List.getElem?_zip_eq_some (z:=(x,y)) |>.mpr ⟨hx,hy⟩]
 rfl
theorem adj_take{ns:List Int}{i:Nat}{x y:Int}(hx:ns[i]?=some x)(hy:(ns.drop 1)[i]?=some y):(adj ns).take (i+1)=(adj ns).take i++[decide (x=y)]:=by
 rw [List.take_add_one,adj_get hx hy]
 rfl
theorem adj_nodup:∀ {ns:List Int},ns.Pairwise (· <= ·)->((adj ns).any id=!decide ns.Nodup)
 | [],_=>by simp [adj]
 | [a],_=>by simp [adj]
 | a :: b :: r,h=>by
  rw [List.pairwise_cons] at h
  have ih:=adj_nodup h.2
  rw [adj_cons,List.any_cons,ih]
  have hab:a <= b:=h.1 b List.mem_cons_self
  by_cases e:a=b
  ·subst e
   have:¬ (a :: a :: r).Nodup:=fun z=>(List.nodup_cons.mp z).1 List.mem_cons_self
   simp [this]
  ·have ne:a∉b :: r:=fun hm=>by
    rcases List.mem_cons.mp hm with z | z
    ·exact e z
    ·have h1:=(List.pairwise_cons.mp h.2).1 a z
     exact e (by omega)
   have:(a :: b :: r).Nodup↔(b :: r).Nodup:=by rw [List.nodup_cons];exact ⟨fun z=>z.2,fun z=>⟨ne,z⟩⟩
   by_cases hn:(b :: r).Nodup
   ·simp [e,this.mpr hn,hn]
   ·simp [e,this,hn]
theorem getMap{α β:Type}{f:α->β}{l:List α}{i:Nat}{y:β}(h:(l.map f)[i]?=some y):∃ x,l[i]?=some x /\ y=f x:=by
 rw [List.getElem?_map] at h
 cases e:l[i]? with
 | none=>rw [e] at h;cases h
 | some x=>rw [e] at h;exact ⟨x,rfl,(Option.some.inj h).symm⟩
theorem take_snoc{α:Type}{l:List α}{i:Nat}{x:α}(h:l[i]?=some x):l.take (i+1)=l.take i++[x]:=by
 rw [List.take_add_one,h]
 rfl
theorem decV(a b:Int):decide (V.int a=V.int b)=decide (a=b):=decide_eq_decide.mpr ⟨fun h=>V.int.inj h,fun h=>h ▸ rfl⟩
end L2
namespace L2
open PySem PySem.Spec PyProof.Rows
structure FnT(K:PySem.W.Frag)(mg:Str->Option Value)(x:Str)(st:Stmt)(ps:List Str):Prop where
 ex:∃ f fd,Fun K x x st f fd /\ mg x=some (.ref f) /\ Binds K fd ps []
structure MtT(K:PySem.W.Frag)(C:Addr)(m qual:Str)(st:Stmt)(ps:List Str):Prop where
 ex:∃ f fd,Fun K m qual st f fd /\ Meth K C m f /\ Binds K fd ps []
structure InT(K:PySem.W.Frag)(C:Addr)(qual:Str)(st:Stmt)(ps:List Str):Prop where
 ex:∃ f fd,Fun K "__init__" qual st f fd /\ Mk K C f /\ Binds K fd ps []
section
variable {P:Program} {w:World} {K:PySem.W.Frag} {mg:Str->Option Value} {base:Heap} {CX:CXT} {k:Nat} {x m qual:Str} {st:Stmt} {ps:List Str} {sp:Sp} {C:Addr}
theorem ctr_of(F:FnT K mg x st ps)(h:∀ f fd,Fun K x x st f fd->FnOk P w K mg base CX k f fd ps sp):Ctr P w K mg base CX k x ps sp:=by
 obtain ⟨f,fd,F,e,b⟩:=F.ex
 exact ⟨⟨f,fd,h f fd F,e,F.kp,b⟩⟩
theorem ctrM_of(cl:Cls K C)(F:MtT K C m qual st ps)(h:∀ f fd,Fun K m qual st f fd->FnOk P w K mg base CX k f fd ps sp):CtrM P w K mg base CX k C m ps sp:=by
 obtain ⟨f,fd,F,e,b⟩:=F.ex
 exact ⟨cl,⟨f,fd,h f fd F,e,b⟩⟩
theorem ctrC_of (mgC:mg x=some (.ref C)) (F:InT K C qual st ps) (h:∀ f fd,Fun K "__init__" qual st f fd->FnOk P w K mg base CX k f fd ps sp):CtrC P w K mg base CX k x C ps sp:=by
 obtain ⟨f,fd,F,e,b⟩:=F.ex
 exact ⟨mgC,⟨f,fd,h f fd F,e,b⟩⟩
end
theorem kit_same{K:PySem.W.Frag}{t:Value}:kitOne K t t=some true:=by
 unfold kitOne
 rw [if_pos (beq_self_eq_true t)]
theorem kit_int_bool{K:PySem.W.Frag}:kitOne K (.type "int") (.type "bool")=some false:=by first | rfl | kernel_rfl
theorem b_isinstance:bootBuiltins ("isinstance":Str)=some (.builtin "isinstance"):=by decide +kernel
theorem b_sorted:bootBuiltins ("sorted":Str)=some (.builtin "sorted"):=by decide +kernel
theorem b_any:bootBuiltins ("any":Str)=some (.builtin "any"):=by decide +kernel
theorem b_sum:bootBuiltins ("sum":Str)=some (.builtin "sum"):=by decide +kernel
theorem b_len:bootBuiltins ("len":Str)=some (.builtin "len"):=by decide +kernel
theorem b_min:bootBuiltins ("min":Str)=some (.builtin "min"):=by decide +kernel
theorem b_max:bootBuiltins ("max":Str)=some (.builtin "max"):=by decide +kernel
theorem b_int:bootBuiltins ("int":Str)=some (.type "int"):=by decide +kernel
theorem b_list:bootBuiltins ("list":Str)=some (.type "list"):=by decide +kernel
theorem b_bool:bootBuiltins ("bool":Str)=some (.type "bool"):=by decide +kernel
end L2
namespace Yd
structure St where
 tr:List (List Int)
 left:List Int
 came:Nat
abbrev Mv:=Bool × Nat
def step(T:List Int)(bl:Bool)(s:St)(m:Mv):Option St:=
 if m.1=true then
  match T[s.came]? with
  | some x=>some ⟨s.tr.set m.2 (s.tr.getD m.2 []++[x]),s.left,s.came+1⟩
  | none=>none
 else
  if bl=true then
   match (s.tr.getD m.2 []).getLast? with
   | some x=>some ⟨s.tr.set m.2 (s.tr.getD m.2 []).dropLast,s.left++[x],s.came⟩
   | none=>none
  else
   match s.tr.getD m.2 [] with
   | x :: r=>some ⟨s.tr.set m.2 r,s.left++[x],s.came⟩
   | []=>none
def init(many:Nat):St:=⟨List.replicate many [],[],0⟩
def steps(T:List Int)(bl:Bool):St->List Mv->Option St
 | s,[]=>some s
 | s,m :: r=>(step T bl s m).bind fun s'=>steps T bl s' r
theorem steps_snoc(T:List Int)(bl:Bool):∀ (s:St) (ms:List Mv) (m:Mv),steps T bl s (ms++[m])=(steps T bl s ms).bind fun s'=>step T bl s' m
 | s,[],m=>by
  show (step T bl s m).bind (fun s'=>some s')=step T bl s m
  cases step T bl s m<;>rfl
 | s,x :: r,m=>by
  show (step T bl s x).bind (fun s'=>steps T bl s' (r++[m]))=((step T bl s x).bind fun s'=>steps T bl s' r).bind fun s'=>step T bl s' m
  cases e:step T bl s x with
  | none=>rfl
  | some s'=>exact steps_snoc T bl s' r m
theorem step_len{T:List Int}{bl:Bool}{s s':St}{m:Mv}(h:step T bl s m=some s'):s'.tr.length=s.tr.length:=by
 unfold step at h
 split at h
 ·split at h
  ·cases h;simp
  ·cases h
 ·split at h
  ·split at h
   ·cases h;simp
   ·cases h
  ·split at h
   ·cases h;simp
   ·cases h
theorem steps_len{T:List Int}{bl:Bool}:∀ {s s':St} {ms:List Mv},steps T bl s ms=some s'->s'.tr.length=s.tr.length
 | s,s',[],h=>by
  have e:s=s':=by simpa [steps] using h
  rw [e]
 | s,s',x :: r,h=>by
  have h1':(step T bl s x).bind (fun s''=>steps T bl s'' r)=some s':=h
  cases e:step T bl s x with
  | none=>rw [e] at h1';cases h1'
  | some s1=>
   rw [e] at h1'
   rw [steps_len h1',step_len e]
theorem step_came{T:List Int}{bl:Bool}{s s':St}{m:Mv}(h:step T bl s m=some s')(hc:s.came <= T.length):s'.came <= T.length:=by
 unfold step at h
 split at h
 ·split at h
  ·rename_i x e
   cases h
   have:=(List.getElem?_eq_some_iff.mp e).1
   show s.came+1 <= T.length
   omega
  ·cases h
 ·split at h
  ·split at h
   ·cases h;exact hc
   ·cases h
  ·split at h
   ·cases h;exact hc
   ·cases h
theorem steps_came{T:List Int}{bl:Bool}:∀ {s s':St} {ms:List Mv},steps T bl s ms=some s'->s.came <= T.length->s'.came <= T.length
 | s,s',[],h,hc=>by
  have e:s=s':=by simpa [steps] using h
  rw [<- e]
  exact hc
 | s,s',x :: r,h,hc=>by
  have h1':(step T bl s x).bind (fun s''=>steps T bl s'' r)=some s':=h
  cases e:step T bl s x with
  | none=>rw [e] at h1';cases h1'
  | some s1=>
   rw [e] at h1'
   exact steps_came h1' (step_came e hc)
end Yd
namespace Ins
theorem perm_ins{ps:List Nat}{k a:Nat}(h:ps.Perm (List.range k)):(ps.take a++[k]++ps.drop a).Perm (List.range (k+1)):=by
 rw [List.range_succ]
 have e:(ps.take a++[k]++ps.drop a).Perm (ps.take a++ps.drop a++[k]):=by
  rw [List.append_assoc,List.append_assoc]
  exact List.Perm.append_left _ List.perm_append_comm
 rw [List.take_append_drop] at e
 exact e.trans (List.Perm.append_right _ h)
def wag(sc:List Int)(far:Int)(j:Nat):Int:=(7*(j:Int)+(sc.getD j 0) / 3 % 7 - 90)*far
theorem wag_lt(sc:List Int){far:Int}(hf:0 < far){i j:Nat}(h:i < j):wag sc far i < wag sc far j:=by
 unfold wag
 refine Int.mul_lt_mul_of_pos_right ?_ hf
 have a1:=Int.emod_nonneg ((sc.getD i 0) / 3) (show (7:Int)≠0 by decide)
 have a2:=Int.emod_lt_of_pos ((sc.getD i 0) / 3) (show (0:Int) < 7 by decide)
 have b1:=Int.emod_nonneg ((sc.getD j 0) / 3) (show (7:Int)≠0 by decide)
 omega
theorem wag_inj(sc:List Int){far:Int}(hf:0 < far){i j:Nat}(h:wag sc far i=wag sc far j):i=j:=by
 rcases Nat.lt_trichotomy i j with z | z | z
 ·have:=wag_lt sc hf z;omega
 ·exact z
 ·have:=wag_lt sc hf z;omega
theorem nodup_map{ps:List Nat}{f:Nat->Int}(h:ps.Nodup)(hf:∀ i j,f i=f j->i=j):(ps.map f).Nodup:=by
 induction ps with
 | nil=>exact List.nodup_nil
 | cons a r ih=>
  obtain ⟨h1,h2⟩:=List.nodup_cons.mp h
  rw [List.map_cons]
  refine List.nodup_cons.mpr ⟨fun m=>?_,ih h2⟩
  obtain ⟨b,hb,e⟩:=List.mem_map.mp m
  exact h1 (hf _ _ e ▸ hb)
theorem train_nodup(sc:List Int){far:Int}(hf:0 < far){n:Nat}{ps:List Nat}(h:ps.Perm (List.range n)):(ps.map (wag sc far)).Nodup:=
 nodup_map (h.nodup_iff.mpr List.nodup_range) fun _ _ e=>wag_inj sc hf e
theorem perm_lt{n:Nat}{ps:List Nat}(h:ps.Perm (List.range n)){x:Nat}(hx:x∈ps):x < n:=List.mem_range.mp (h.mem_iff.mp hx)
end Ins
namespace My
open PySem L2
theorem HP{M:Model}{A:Around}{env:Env}:PassesOwn M A env (fun _ _=>False):=PassesOwn.never
def deed(b:Bool):Str:=if b then "in" else "out"
def MvT(H:Hp)(r:Addr)(m:Yd.Mv):Prop:=H r=some (.tup [.str (deed m.1),.int (m.2:Int)])
def MovesAt(H:Hp)(a:Addr)(ms:List Yd.Mv):Prop:=∃ rs:List Addr,H a=some (.lst (rs.map V.ref)) /\ Paired (MvT H) rs ms
theorem Paired.get{α β:Type}{F:α->β->Prop}:∀ {l:List α} {m:List β} {i:Nat} {x:α},Paired F l m->l[i]?=some x->∃ y,m[i]?=some y /\ F x y
 | _,_,_,_,.nil,e=>by simp at e
 | _,_,0,_,.cons r _,e=>by simp at e;subst e;exact ⟨_,rfl,r⟩
 | _,_,i+1,x,.cons _ t,e=>by
  obtain ⟨u,h1,h2⟩:=Paired.get (i:=i) (x:=x) t (by simpa using e)
  exact ⟨u,by simpa using h1,h2⟩
theorem Paired.imp{α β:Type}{F G:α->β->Prop}(f:∀ a b,F a b->G a b):∀ {l:List α} {m:List β},Paired F l m->Paired G l m
 | _,_,.nil=>.nil
 | _,_,.cons r t=>.cons (f _ _ r) (Paired.imp f t)
theorem Paired.snoc'{α β:Type}{F:α->β->Prop}{a:α}{b:β}:∀ {l:List α} {m:List β},Paired F l m->F a b->Paired F (l++[a]) (m++[b])
 | _,_,.nil,h=>.cons h .nil
 | _,_,.cons h1 t,h=>.cons h1 (Paired.snoc' t h)
theorem MvT.same{H H':Hp}(s:Same H H'){r:Addr}{m:Yd.Mv}(h:MvT H r m):MvT H' r m:=s _ _ h
theorem MovesAt.same{H H':Hp}(s:Same H H'){a:Addr}{ms:List Yd.Mv}(h:MovesAt H a ms):MovesAt H' a ms:=
 let ⟨rs,e,p⟩:=h;⟨rs,s _ _ e,Paired.imp (fun _ _ z=>z.same s) p⟩
theorem Same.updN{H H':Hp}{a:Addr}{o:HO}(s:Same H H')(h:H a=none):Same H (upd H' a o):=fun b u e=>by
 rw [upd_ne (ne_of_none e h)]
 exact s b u e
theorem iteDT{c A B:Prop} [Decidable c] (hc:c) (h:A):if decide c=true then A else B:=by rw [if_pos (decide_eq_true hc)];exact h
theorem iteDF{c A B:Prop} [Decidable c] (hc:¬ c) (h:B):if decide c=true then A else B:=by rw [if_neg (by rw [decide_eq_false hc];exact Bool.false_ne_true)];exact h
end My
namespace L2
open PySem PySem.Spec PyProof.Rows
open PySem.W (Dat)
def dI(xs:List Int):Dat:=.list (xs.map .int)
theorem DVs.ints{K:PySem.W.Frag}{H:Hp}:∀ (xs:List Int),DVs K H (xs.map V.int) (xs.map .int)
 | []=>.nil
 | x :: r=>.cons (.int x) (DVs.ints r)
theorem DV.ints{K:PySem.W.Frag}{H:Hp}{a:Addr}{xs:List Int}(h:SqL K H a (xs.map V.int)):DV K H (.ref a) (dI xs):=.lst h (DVs.ints xs)
theorem ok_ints(n:Nat)(xs:List Int):kqdOk (n+1) (dI xs)=true:=by
 unfold dI
 rw [kqdOk]
 rw [List.all_eq_true]
 intro d hd
 obtain ⟨x,_,rfl⟩:=List.mem_map.mp hd
 unfold kqdOk
 rfl
theorem ok_list{n:Nat}{ds:List Dat}(h:∀ d∈ds,kqdOk n d=true):kqdOk (n+1) (.list ds)=true:=by
 rw [kqdOk,List.all_eq_true];exact h
theorem dI_inj{xs ys:List Int}(h:dI xs=dI ys):xs=ys:=by
 have h1:xs.map Dat.int=ys.map Dat.int:=Dat.list.inj h
 exact List.map_inj_right (fun a b e=>Dat.int.inj e) |>.mp h1
theorem ixN_nat{n t:Nat}(h:t < n):ixN n (t:Int)=some t:=by
 unfold ixN
 rw [if_pos (by omega),if_pos (by omega)];simp
end L2
namespace My
open PySem L2
open PySem.W (Dat)
theorem iteNSc{c A B:Prop}{inst:Decidable c}(hc:c)(h:B):if (!decide c)=true then A else B:=iteNS hc h
theorem iteNT{c A B:Prop}{inst:Decidable c}(hc:¬ c)(h:A):if (!decide c)=true then A else B:=by
 rw [decide_eq_false hc]
 exact iteT h
theorem iteNB{c A B:Prop}{inst:Decidable c}(h1:¬ c->A)(h2:c->B):if (!decide c)=true then A else B:=by
 by_cases h:c
 ·exact iteNS h (h2 h)
 ·exact iteNT h (h1 h)
theorem iteDB{c A B:Prop}{inst:Decidable c}(h1:c->A)(h2:¬ c->B):if decide c=true then A else B:=by
 by_cases h:c
 ·exact iteDT h (h1 h)
 ·exact iteDF h (h2 h)
theorem Paired.take{α β:Type}{F:α->β->Prop}:∀ {l:List α} {m:List β} (n:Nat),Paired F l m->Paired F (l.take n) (m.take n)
 | _,_,0,_=>.nil
 | _,_,_+1,.nil=>.nil
 | _,_,n+1,.cons a b=>.cons a (Paired.take n b)
structure Yds(H0 H:Hp)(kA:Addr)(ls:List Addr)(tr:List (List Int)):Prop where
 lst:H kA=some (.lst (ls.map V.ref))
 len:ls.length=tr.length
 each:∀ (j:Nat) l,ls[j]?=some l->∃ c,tr[j]?=some c /\ H l=some (.lst (c.map V.int)) /\ H0 l=none /\ l≠kA
 inj:∀ (i j:Nat) l,ls[i]?=some l->ls[j]?=some l->i=j
variable {H0 H H':Hp} {kA:Addr} {ls:List Addr} {tr:List (List Int)}
theorem Yds.same(h:Yds H0 H kA ls tr)(s:Same H H'):Yds H0 H' kA ls tr:=
 ⟨s _ _ h.lst,h.len,fun j l e=>let ⟨c,a,b,r⟩:=h.each j l e;⟨c,a,s _ _ b,r⟩,h.inj⟩
theorem Yds.set(h:Yds H0 H kA ls tr){j:Nat}{l:Addr}(e:ls[j]?=some l)(c':List Int):Yds H0 (upd H l (.lst (c'.map V.int))) kA ls (tr.set j c'):=by
 obtain ⟨c,e1,e2,e3,e4⟩:=h.each j l e
 refine ⟨by rw [upd_ne (Ne.symm e4)];exact h.lst,by rw [List.length_set];exact h.len,fun i l' e'=>?_,h.inj⟩
 obtain ⟨c1,a1,a2,a3,a4⟩:=h.each i l' e'
 by_cases hij:i=j
 ·subst hij
  rw [e] at e'
  cases e'
  exact ⟨c',by rw [List.getElem?_set_self (List.getElem?_eq_some_iff.mp e1).1],upd_same,a3,a4⟩
 ·have hl:l'≠l:=fun z=>hij (h.inj i j l (z ▸ e') e)
  exact ⟨c1,by rw [List.getElem?_set_ne (Ne.symm hij)];exact a1,by rw [upd_ne hl];exact a2,a3,a4⟩
theorem Yds.other(h:Yds H0 H kA ls tr){a:Addr}{o:HO}(h1:kA≠a)(h2:∀ (j:Nat) l,ls[j]?=some l->l≠a):Yds H0 (upd H a o) kA ls tr:=
 ⟨by rw [upd_ne h1];exact h.lst,h.len,fun j l e=>let ⟨c,a1,b,r⟩:=h.each j l e;⟨c,a1,by rw [upd_ne (h2 j l e)];exact b,r⟩,h.inj⟩
theorem Yds.push(h:Yds H0 H kA ls tr)(s:Same H0 H){l:Addr}(hl:H l=none):Yds H0 (upd (upd H l (.lst [])) kA (.lst (ls.map V.ref++[.ref l]))) kA (ls++[l]) (tr++[[]]):=by
 have ekl:kA≠l:=ne_of_none h.lst hl
 have old:∀ {j:Nat} {l':Addr},(ls++[l])[j]?=some l'->(ls[j]?=some l' /\ j < ls.length) \/ (l'=l /\ j=ls.length):=fun {j l'} e=>by
  rcases Nat.lt_or_ge j ls.length with hj | hj
  ·rw [List.getElem?_append_left hj] at e
   exact .inl ⟨e,hj⟩
  ·rw [List.getElem?_append_right hj] at e
   cases q:j - ls.length with
   | zero=>rw [q] at e;exact .inr ⟨(Option.some.inj e).symm,by omega⟩
   | succ m=>rw [q] at e;simp at e
 refine ⟨by rw [upd_same,List.map_append];rfl,by simp [h.len],fun j l' e=>?_,fun i j l' e1 e2=>?_⟩
 ·rcases old e with ⟨e,hj⟩ | ⟨rfl,rfl⟩
  ·obtain ⟨c,a1,a2,a3,a4⟩:=h.each j l' e
   exact ⟨c,by rw [List.getElem?_append_left (by rw [<- h.len];exact hj)];exact a1,by rw [upd_ne a4];exact upd_get a2 hl,a3,a4⟩
  ·exact ⟨[],by rw [List.getElem?_append_right (by rw [h.len];exact Nat.le_refl _),h.len,Nat.sub_self];rfl,by rw [upd_ne ekl.symm,upd_same];rfl,s.free hl,ekl.symm⟩
 ·rcases old e1 with ⟨f1,h1⟩ | ⟨f1,h1⟩<;>rcases old e2 with ⟨f2,h2⟩ | ⟨f2,h2⟩
  ·exact h.inj i j l' f1 f2
  ·obtain ⟨c,a1,a2,_⟩:=h.each i l' f1
   rw [f2,hl] at a2;cases a2
  ·obtain ⟨c,a1,a2,_⟩:=h.each j l' f2
   rw [f1,hl] at a2;cases a2
  ·omega
end My
namespace L2
open PySem PySem.Spec PyProof.Rows
end L2
namespace My
open PySem L2
end My
namespace L2
open PySem PySem.Spec PyProof.Rows
def revN(n:Nat):Option Int->Nat
 | none=>n
 | some i=>(max (-1) (min (if i < 0 then i+n else i) ((n:Int) - 1))+1).toNat
theorem revN_le(n:Nat)(lo:Option Int):revN n lo <= n:=by
 cases lo with
 | none=>exact Nat.le_refl _
 | some i=>unfold revN;split<;>omega
def revV(xs:List V)(lo:Option Int):List V:=(xs.take (revN xs.length lo)).reverse
theorem pick_rev{α:Type}(its:List α):∀ m,m <= its.length->((List.range m).map fun k=>m - 1 - k).filterMap (its[·]?)=(its.take m).reverse
 | 0,_=>rfl
 | m+1,h=>by
  have ih:=pick_rev its m (by omega)
  rw [List.range_succ_eq_map,List.map_cons,List.map_map,List.filterMap_cons]
  have e0:its[m+1 - 1 - 0]?=some its[m]:=by simp
  rw [e0,take_snocG (its:=its) (show m < its.length by omega),List.reverse_append]
  show its[m] :: _=its[m] :: _
  congr 1
  rw [<- ih]
  congr 1
  refine List.map_congr_left fun k hk=>?_
  show m+1 - 1 - (k+1)=m - 1 - k
  omega
where
 take_snocG {α:Type} {its:List α} {m:Nat} (h:m < its.length):its.take (m+1)=its.take m++[its[m]]:=by
  rw [List.take_add_one,List.getElem?_eq_getElem h]
  rfl
theorem slicePick_rev(its:List Value)(lo:Option Int):slicePick its.toArray lo none (some (-1))=((its.take (revN its.length lo)).reverse).toArray:=by
 have hle:=revN_le its.length lo
 rw [<- pick_rev its _ hle]
 unfold slicePick
 have hb:(sliceBounds lo none (some (-1)) its.toArray.size).1=(revN its.length lo:Int) - 1 /\ (sliceBounds lo none (some (-1)) its.toArray.size).2.1=-1 /\ (sliceBounds lo none (some (-1)) its.toArray.size).2.2=-1:=by
  refine ⟨?_,?_,rfl⟩
  ·rw [List.size_toArray]
   cases lo with
   | none=>simp [sliceBounds,revN]
   | some i=>
    simp only [sliceBounds,revN,Option.getD_some,show ¬ ((-1:Int) > 0) by decide,if_false]
    split<;>omega
  ·simp [sliceBounds]
 rw [hb.1,hb.2.1,hb.2.2]
 congr 1
 have er:sliceRange ((revN its.length lo:Int) - 1) (-1) (-1)=(List.range (revN its.length lo)).map fun k=>revN its.length lo - 1 - k:=by
  unfold sliceRange
  simp only [show ¬ ((-1:Int) > 0) by decide,if_false]
  by_cases h:revN its.length lo=0
  ·rw [h]
   simp
  ·rw [if_pos (show ((revN its.length lo:Int) - 1) > -1 by omega)]
   have e1:(((revN its.length lo:Int) - 1 - -1 - -1 - 1) / - -1).toNat=revN its.length lo:=by
    rw [show - -(1:Int)=1 from rfl,Int.ediv_one]
    omega
   rw [e1]
   refine List.map_congr_left fun k hk=>?_
   have:=List.mem_range.mp hk
   omega
 rw [er]
 congr 1
 funext x
 simp
section
variable {X:Cx} {K:PySem.W.Frag} {e st:Expr} {te:TE} {lo:Option Expr} {tl ts:TO} {pos p2:Pos}
def tRev(K:PySem.W.Frag)(te:TE)(tl ts:TO):TE:=fun σ H Q=>te σ H fun x H1=>tl σ H1 fun l H2=>ts σ H2 fun z H3=>z=some (-1) /\ ∃ a xs,x=.ref a /\ SqL K H3 a xs /\ ∀ p,H3 p=none->Q (.ref p) (upd H3 p (.lst (revV xs l)))
theorem pe_rev(hK:X.K=K)(he:PE X e te)(hl:PO X lo tl)(hs:PO X (some st) ts):PE X (.Subscript e (.Slice lo none (some st) p2) pos) (tRev K te tl ts):=by
 subst hK
 intro pins s σ H Q I h
 refine Subscript_ (thn (he pins s σ H _ I h) fun v s1 ⟨x,H1,I1,r1,q1⟩=>?_)
 refine wpAny_Slice (thn (hl pins s1 σ H1 _ I1 q1) fun vl s2 ⟨l,H2,I2,pl,q2⟩=>?_)
 rw [evalPart_none]
 refine wpAny_pure (thn (hs pins s2 σ H2 _ I2 q2) fun vs s3 ⟨z,H3,I3,pz,ez,a,xs,ex,hx,q3⟩=>?_)
 subst ez ex
 cases r1
 have I4:Inv X pins σ H3 { s3 with heap:=s3.heap.push { cls:=.type "slice",data:=.fields #[vl,.none,vs] } }:=I3.kept (t':=s3.toks) fun b ob q=>Heap.get?_push_of_some _ q
 obtain ⟨its,r,ht,hz⟩:=I4.list hx
 have hlen:=r.length
 show wpAny (model X.prog X.w) X.A (subscriptTail e (.Slice lo none (some st) p2) (.ref a) (.ref s3.heap.objs.size)) (EP X pins σ Q) X.xe { s3 with heap:=s3.heap.push { cls:=.type "slice",data:=.fields #[vl,.none,vs] } }
 refine tail_any (ops:=[.ref a,.ref s3.heap.objs.size]) ht.isList.typeIs slot_list_getitem.lookup ?_ (by with_unfolding_all rfl)
 refine wpAny_getItem_list_slice ht.isList (Heap.IsSliceOf.new ..) pl .none pz (by simp) ?_ (by rw [List.size_toArray];omega)
 rw [slicePick_rev,<- hlen]
 refine ⟨.ref _,_,I4.laid (t':=s3.toks) (o:=.lst (revV xs l)) (fun b ob q=>Heap.get?_push_of_some _ q) (Nat.le_refl _) ?_,rfl,q3 _ (I4.hok.fresh (Nat.le_refl _))⟩
 refine ⟨?_,(its.take (revN xs.length l)).reverse,0,?_,Heap.get?_push_size _ rfl⟩
 ·unfold revV
  rw [List.length_reverse,List.length_take]
  omega
 ·unfold revV
  exact (r.take _).reverse
end
theorem revV_all(xs:List V):revV xs none=xs.reverse:=by
 unfold revV revN
 rw [List.take_length]
end L2
namespace Yd
theorem step_app{T:List Int}{bl:Bool}{s s':St}{m:Mv}(h:step T bl s m=some s'):∃ w,s'.left=s.left++w:=by
 unfold step at h
 split at h
 ·split at h
  ·cases h;exact ⟨[],by simp⟩
  ·cases h
 ·split at h
  ·split at h
   ·cases h;exact ⟨_,rfl⟩
   ·cases h
  ·split at h
   ·cases h;exact ⟨_,rfl⟩
   ·cases h
theorem steps_cons{T:List Int}{bl:Bool}{s st:St}{m:Mv}{r:List Mv}(h:steps T bl s (m :: r)=some st):∃ s',step T bl s m=some s' /\ steps T bl s' r=some st:=by
 have h1:(step T bl s m).bind (fun s'=>steps T bl s' r)=some st:=h
 cases e:step T bl s m with
 | none=>rw [e] at h1;cases h1
 | some s'=>rw [e] at h1;exact ⟨s',rfl,h1⟩
theorem steps_app{T:List Int}{bl:Bool}:∀ {s st:St} {ms:List Mv},steps T bl s ms=some st->∃ w,st.left=s.left++w
 | s,st,[],h=>by
  have e:s=st:=by simpa [steps] using h
  exact ⟨[],by rw [e];simp⟩
 | s,st,m :: r,h=>by
  obtain ⟨s',h1,h2⟩:=steps_cons h
  obtain ⟨w1,e1⟩:=step_app h1
  obtain ⟨w2,e2⟩:=steps_app h2
  exact ⟨w1++w2,by rw [e2,e1,List.append_assoc]⟩
theorem steps_append{T:List Int}{bl:Bool}:∀ {s:St} {a b:List Mv},steps T bl s (a++b)=(steps T bl s a).bind fun s'=>steps T bl s' b
 | s,[],b=>rfl
 | s,m :: a,b=>by
  show (step T bl s m).bind (fun s'=>steps T bl s' (a++b))=((step T bl s m).bind fun s'=>steps T bl s' a).bind fun s'=>steps T bl s' b
  cases e:step T bl s m with
  | none=>rfl
  | some s'=>exact steps_append
theorem step_cases{T:List Int}{bl:Bool}{s s':St}{m:Mv}(h:step T bl s m=some s')(hv:m.2 < s.tr.length):
  (m.1=true /\ ∃ x c,T[s.came]?=some x /\ s.tr[m.2]?=some c /\ s'=⟨s.tr.set m.2 (c++[x]),s.left,s.came+1⟩) \/
  (m.1=false /\ bl=true /\ ∃ x c,s.tr[m.2]?=some (c++[x]) /\ s'=⟨s.tr.set m.2 c,s.left++[x],s.came⟩) \/
  (m.1=false /\ bl=false /\ ∃ x c,s.tr[m.2]?=some (x :: c) /\ s'=⟨s.tr.set m.2 c,s.left++[x],s.came⟩):=by
 obtain ⟨c,hc⟩:∃ c,s.tr[m.2]?=some c:=⟨_,List.getElem?_eq_getElem hv⟩
 have hD:s.tr.getD m.2 []=c:=by rw [List.getD_eq_getElem?_getD,hc];rfl
 unfold step at h
 rw [hD] at h
 split at h
 ·rename_i h1
  split at h
  ·rename_i x e
   cases h
   exact .inl ⟨h1,x,c,e,hc,rfl⟩
  ·cases h
 ·rename_i h1
  have h1':m.1=false:=by simpa using h1
  split at h
  ·rename_i h2
   split at h
   ·rename_i x e
    cases h
    refine .inr (.inl ⟨h1',h2,x,c.dropLast,?_,rfl⟩)
    rw [hc]
    congr 1
    have hne:c≠[]:=fun z=>by rw [z] at e;cases e
    have:=List.dropLast_concat_getLast hne
    rw [List.getLast?_eq_some_getLast hne] at e
    rw [<- Option.some.inj e]
    exact this.symm
   ·cases h
  ·rename_i h2
   have h2':bl=false:=by simpa using h2
   split at h
   ·rename_i x r
    cases h
    exact .inr (.inr ⟨h1',h2',_,_,hc,rfl⟩)
   ·cases h
theorem sum_set{tr:List (List Int)}{j:Nat}{c c':List Int}(h:tr[j]?=some c):((tr.set j c').map List.length).sum+c.length=(tr.map List.length).sum+c'.length:=by
 induction tr generalizing j with
 | nil=>simp at h
 | cons a r ih=>
  cases j with
  | zero=>
   have e:a=c:=by simpa using h
   subst e
   simp only [List.set_cons_zero,List.map_cons,List.sum_cons]
   omega
  | succ j=>
   have h':r[j]?=some c:=by simpa using h
   have:=ih h'
   simp only [List.set_cons_succ,List.map_cons,List.sum_cons]
   omega
theorem le_sum{l:List Nat}{x:Nat}(h:x∈l):x <= l.sum:=by
 induction l with
 | nil=>cases h
 | cons a r ih=>
  rw [List.sum_cons]
  rcases List.mem_cons.mp h with rfl | z
  ·omega
  ·have:=ih z;omega
theorem steps_count{T:List Int}{bl:Bool}:∀ {s st:St} {ms:List Mv},steps T bl s ms=some st->(∀ m∈ms,m.2 < s.tr.length)->s.left.length+(s.tr.map List.length).sum=s.came->st.left.length+(st.tr.map List.length).sum=st.came
 | s,st,[],h,_,hc=>by
  have e:s=st:=by simpa [steps] using h
  rw [<- e];exact hc
 | s,st,m :: r,h,hv,hc=>by
  obtain ⟨s',h1,h2⟩:=steps_cons h
  have hl:=step_len h1
  refine steps_count h2 (fun m' hm=>by rw [hl];exact hv m' (List.mem_cons_of_mem _ hm)) ?_
  rcases step_cases h1 (hv m List.mem_cons_self) with ⟨_,x,c,_,e,rfl⟩ | ⟨_,_,x,c,e,rfl⟩ | ⟨_,_,x,c,e,rfl⟩
  ·have:=sum_set (c':=c++[x]) e
   simp only [List.length_append,List.length_cons,List.length_nil] at this ⊢
   omega
  ·have:=sum_set (c':=c) e
   simp only [List.length_append,List.length_cons,List.length_nil] at this ⊢
   omega
  ·have:=sum_set (c':=c) e
   simp only [List.length_append,List.length_cons,List.length_nil] at this ⊢
   omega
theorem init_count(n:Nat):(init n).left.length+((init n).tr.map List.length).sum=(init n).came:=by
 show 0+((List.replicate n ([]:List Int)).map List.length).sum=0
 rw [List.map_replicate]
 simp
structure Done(T:List Int)(st:St):Prop where
 came:st.came=T.length
 empty:∀ (j:Nat) c,st.tr[j]?=some c->c=[]
theorem done_of{T:List Int}{bl:Bool}{n:Nat}{st:St}{ms:List Mv}(h:steps T bl (init n) ms=some st)(hv:∀ m∈ms,m.2 < n)(hl:st.left.length=T.length):Done T st:=by
 have h1:=steps_count h (fun m hm=>by show m.2 < (List.replicate n ([]:List Int)).length;rw [List.length_replicate];exact hv m hm) (init_count n)
 have h2:=steps_came h (Nat.zero_le _)
 refine ⟨by omega,fun j c e=>?_⟩
 have h3:c.length <= (st.tr.map List.length).sum:=by
  have hm:c.length∈st.tr.map List.length:=List.mem_map.mpr ⟨c,List.mem_of_getElem? e,rfl⟩
  exact le_sum hm
 have h4:c.length=0:=by omega
 exact List.length_eq_zero_iff.mp h4
theorem leaves{T:List Int}{bl:Bool}:∀ {s st:St} {ms:List Mv} {j:Nat} {c:List Int} {a:Int},steps T bl s ms=some st->(∀ m∈ms,m.2 < s.tr.length)->Done T st->s.tr[j]?=some c->a∈c->∃ w,st.left=s.left++w /\ a∈w
 | s,st,[],j,c,a,h,_,D,hc,ha=>by
  have e:s=st:=by simpa [steps] using h
  rw [e] at hc
  rw [D.empty j c hc] at ha
  cases ha
 | s,st,m :: r,j,c,a,h,hv,D,hc,ha=>by
  obtain ⟨s',h1,h2⟩:=steps_cons h
  have hl:=step_len h1
  have hv':∀ m'∈r,m'.2 < s'.tr.length:=fun m' hm=>by rw [hl];exact hv m' (List.mem_cons_of_mem _ hm)
  obtain ⟨w1,e1⟩:=step_app h1
  have go:∀ {c':List Int},s'.tr[j]?=some c'->a∈c'->∃ w,st.left=s.left++w /\ a∈w:=fun hc' ha'=>by
   obtain ⟨w,e,hw⟩:=leaves h2 hv' D hc' ha'
   exact ⟨w1++w,by rw [e,e1,List.append_assoc],List.mem_append_right _ hw⟩
  have gone:∀ {x:Int},s'.left=s.left++[x]->a=x->∃ w,st.left=s.left++w /\ a∈w:=fun {x} e ex=>by
   obtain ⟨w,e2⟩:=steps_app h2
   exact ⟨[x]++w,by rw [e2,e,List.append_assoc],by simp [ex]⟩
  have hj:j < s.tr.length:=(List.getElem?_eq_some_iff.mp hc).1
  rcases step_cases h1 (hv m List.mem_cons_self) with ⟨_,x,d,_,e,es⟩ | ⟨_,_,x,d,e,es⟩ | ⟨_,_,x,d,e,es⟩
  ·by_cases hjm:m.2=j
   ·subst hjm
    rw [hc] at e
    cases e
    exact go (c':=c++[x]) (by rw [es];exact List.getElem?_set_self hj) (List.mem_append_left _ ha)
   ·exact go (c':=c) (by rw [es];show (s.tr.set m.2 _)[j]?=_;rw [List.getElem?_set_ne hjm];exact hc) ha
  ·by_cases hjm:m.2=j
   ·subst hjm
    rw [hc] at e
    have e':c=d++[x]:=Option.some.inj e
    rw [e'] at ha
    rcases List.mem_append.mp ha with z | z
    ·exact go (c':=d) (by rw [es];exact List.getElem?_set_self hj) z
    ·exact gone (by rw [es]) (by simpa using z)
   ·exact go (c':=c) (by rw [es];show (s.tr.set m.2 _)[j]?=_;rw [List.getElem?_set_ne hjm];exact hc) ha
  ·by_cases hjm:m.2=j
   ·subst hjm
    rw [hc] at e
    have e':c=x :: d:=Option.some.inj e
    rw [e'] at ha
    rcases List.mem_cons.mp ha with z | z
    ·exact gone (by rw [es]) z
    ·exact go (c':=d) (by rw [es];exact List.getElem?_set_self hj) z
   ·exact go (c':=c) (by rw [es];show (s.tr.set m.2 _)[j]?=_;rw [List.getElem?_set_ne hjm];exact hc) ha
theorem comes{T:List Int}{bl:Bool}:∀ {s st:St} {ms:List Mv} {k:Nat} {x:Int},steps T bl s ms=some st->(∀ m∈ms,m.2 < s.tr.length)->Done T st->s.came <= k->T[k]?=some x->∃ w,st.left=s.left++w /\ x∈w
 | s,st,[],k,x,h,_,D,hk,hx=>by
  have e:s=st:=by simpa [steps] using h
  have:=(List.getElem?_eq_some_iff.mp hx).1
  have:=D.came
  rw [<- e] at this
  omega
 | s,st,m :: r,k,x,h,hv,D,hk,hx=>by
  obtain ⟨s',h1,h2⟩:=steps_cons h
  have hl:=step_len h1
  have hv':∀ m'∈r,m'.2 < s'.tr.length:=fun m' hm=>by rw [hl];exact hv m' (List.mem_cons_of_mem _ hm)
  obtain ⟨w1,e1⟩:=step_app h1
  have go:s'.came <= k->∃ w,st.left=s.left++w /\ x∈w:=fun hk'=>by
   obtain ⟨w,e,hw⟩:=comes h2 hv' D hk' hx
   exact ⟨w1++w,by rw [e,e1,List.append_assoc],List.mem_append_right _ hw⟩
  rcases step_cases h1 (hv m List.mem_cons_self) with ⟨_,y,d,ey,e,es⟩ | ⟨_,_,y,d,e,es⟩ | ⟨_,_,y,d,e,es⟩
  ·by_cases hkk:k=s.came
   ·subst hkk
    rw [hx] at ey
    cases ey
    obtain ⟨w,e',hw⟩:=leaves h2 hv' D (j:=m.2) (c:=d++[x]) (a:=x) (by rw [es];exact List.getElem?_set_self (hv m List.mem_cons_self)) (List.mem_append_right _ (by simp))
    exact ⟨w1++w,by rw [e',e1,List.append_assoc],List.mem_append_right _ hw⟩
   ·exact go (by rw [es];show s.came+1 <= k;omega)
  ·exact go (by rw [es];exact hk)
  ·exact go (by rw [es];exact hk)
theorem lifo{T:List Int}{bl:Bool}:∀ {s st:St} {ms:List Mv} {j:Nat} {u v w:List Int} {a b:Int},steps T bl s ms=some st->(∀ m∈ms,m.2 < s.tr.length)->Done T st->st.left.Pairwise (· < ·)->s.tr[j]?=some (u++a :: v++b :: w)->
  if bl=true then b < a else a < b
 | s,st,[],j,u,v,w,a,b,h,_,D,_,hc=>by
  have e:s=st:=by simpa [steps] using h
  rw [e] at hc
  have:=D.empty j _ hc
  simp at this
 | s,st,m :: r,j,u,v,w,a,b,h,hv,D,hp,hc=>by
  obtain ⟨s',h1,h2⟩:=steps_cons h
  have hl:=step_len h1
  have hv':∀ m'∈r,m'.2 < s'.tr.length:=fun m' hm=>by rw [hl];exact hv m' (List.mem_cons_of_mem _ hm)
  have hj:j < s.tr.length:=(List.getElem?_eq_some_iff.mp hc).1
  have stay:∀ {u' v' w':List Int},s'.tr[j]?=some (u'++a :: v'++b :: w')->if bl=true then b < a else a < b:=fun e=>lifo h2 hv' D hp e
  have other:∀ (c':List Int),m.2≠j->(s.tr.set m.2 c')[j]?=some (u++a :: v++b :: w):=fun c' hm=>by rw [List.getElem?_set_ne hm];exact hc
  have order:∀ {y z:Int} {c':List Int},s'.left=s.left++[y]->s'.tr[j]?=some c'->z∈c'->y < z:=fun {y z c'} e hc' hz=>by
   obtain ⟨w',e',hw⟩:=leaves h2 hv' D hc' hz
   rw [e',e,List.append_assoc,List.pairwise_append] at hp
   exact (List.pairwise_append.mp hp.2.1).2.2 y (by simp) z hw
  rcases step_cases h1 (hv m List.mem_cons_self) with ⟨_,y,d,ey,e,es⟩ | ⟨_,hb,y,d,e,es⟩ | ⟨_,hb,y,d,e,es⟩
  ·by_cases hm:m.2=j
   ·subst hm
    rw [hc] at e
    have ed:=Option.some.inj e
    refine stay (u':=u) (v':=v) (w':=w++[y]) ?_
    rw [es]
    show (s.tr.set m.2 (d++[y]))[m.2]?=_
    rw [List.getElem?_set_self hj,<- ed]
    simp
   ·exact stay (by rw [es];exact other _ hm)
  ·by_cases hm:m.2=j
   ·subst hm
    rw [hc] at e
    have ed:=Option.some.inj e
    rw [if_pos hb]
    have hs':s'.tr[m.2]?=some d:=by rw [es];exact List.getElem?_set_self hj
    rcases List.eq_nil_or_concat w with rfl | ⟨w',x,rfl⟩
    ·
     have e2:u++a :: v=d /\ [b]=[y]:=by
      have:(u++a :: v)++[b]=d++[y]:=ed
      exact List.append_inj' this rfl
     have:y=b:=by simpa using e2.2.symm
     subst this
     exact order (by rw [es]) hs' (by rw [<- e2.1];simp)
    ·have e2:u++a :: v++b :: w'=d:=by
      have:(u++a :: v++b :: w')++[x]=d++[y]:=by rw [<- ed];simp
      exact (List.append_inj' this rfl).1
     have:=stay (u':=u) (v':=v) (w':=w') (by rw [hs',e2])
     rw [if_pos hb] at this
     exact this
   ·exact stay (by rw [es];exact other _ hm)
  ·by_cases hm:m.2=j
   ·subst hm
    rw [hc] at e
    have ed:=Option.some.inj e
    have hbl:¬ bl=true:=by rw [hb];exact Bool.false_ne_true
    rw [if_neg hbl]
    have hs':s'.tr[m.2]?=some d:=by rw [es];exact List.getElem?_set_self hj
    cases u with
    | nil=>
     have e2:a=y /\ v++b :: w=d:=by simpa using ed
     exact order (y:=a) (by rw [es,e2.1]) hs' (by rw [<- e2.2];simp)
    | cons x u'=>
     have e2:x=y /\ u'++a :: v++b :: w=d:=by simpa using ed
     have:=stay (u':=u') (v':=v) (w':=w) (by rw [hs',e2.2])
     rw [if_neg hbl] at this
     exact this
   ·exact stay (by rw [es];exact other _ hm)
def cm(ms:List Mv):List Nat:=(ms.filter (·.1)).map (·.2)
theorem cm_append(a b:List Mv):cm (a++b)=cm a++cm b:=by unfold cm;rw [List.filter_append,List.map_append]
theorem cm_in(t:Nat):cm [(true,t)]=[t]:=rfl
theorem cm_out(t:Nat):cm [(false,t)]=[]:=rfl
structure Placed(T:List Int)(p:List Mv)(s:St):Prop where
 came:s.came=(cm p).length
 at_:∀ (i:Nat) (a:Int) (t:Nat),T[i]?=some a->(cm p)[i]?=some t->a∈s.left \/ ∃ c,s.tr[t]?=some c /\ a∈c
theorem placed_init(T:List Int)(n:Nat):Placed T [] (init n):=⟨rfl,fun i a t _ h=>by simp [cm] at h⟩
theorem Placed.step{T:List Int}{bl:Bool}{p:List Mv}{s s':St}{m:Mv}(P:Placed T p s)(h:step T bl s m=some s')(hv:m.2 < s.tr.length):Placed T (p++[m]) s':=by
 obtain ⟨m1,m2⟩:=m
 have moved:∀ {c c':List Int} {l:List Int},s.tr[m2]?=some c->(∀ a∈c,a∈c' \/ a∈l)->(∀ a∈s.left,a∈l)->∀ (a:Int) (t:Nat),(a∈s.left \/ ∃ c,s.tr[t]?=some c /\ a∈c)->a∈l \/ ∃ d,(s.tr.set m2 c')[t]?=some d /\ a∈d:=fun {c c' l} hc hcc hl a t ha=>by
  rcases ha with ha | ⟨d,hd,ha⟩
  ·exact .inl (hl a ha)
  ·by_cases e:m2=t
   ·subst e
    rw [hc] at hd
    cases hd
    rcases hcc a ha with z | z
    ·exact .inr ⟨c',List.getElem?_set_self hv,z⟩
    ·exact .inl z
   ·exact .inr ⟨d,by rw [List.getElem?_set_ne e];exact hd,ha⟩
 rcases step_cases h hv with ⟨h1,x,c,hx,hc,rfl⟩ | ⟨h1,_,x,c,hc,rfl⟩ | ⟨h1,_,x,c,hc,rfl⟩
 ·have h1':m1=true:=h1
  subst h1'
  refine ⟨by rw [cm_append,cm_in,List.length_append];show s.came+1=_;rw [P.came];rfl,fun i a t hi ht=>?_⟩
  rw [cm_append,cm_in] at ht
  rcases Nat.lt_or_ge i (cm p).length with hlt | hge
  ·rw [List.getElem?_append_left hlt] at ht
   exact moved (l:=s.left) hc (fun a ha=>.inl (List.mem_append_left _ ha)) (fun a ha=>ha) a t (P.at_ i a t hi ht)
  ·rw [List.getElem?_append_right hge] at ht
   have e0:i - (cm p).length=0:=by
    cases q:i - (cm p).length with
    | zero=>rfl
    | succ n=>rw [q] at ht;simp at ht
   rw [e0] at ht
   have et:m2=t:=by simpa using ht
   have ei:i=s.came:=by rw [P.came];omega
   have hx':T[s.came]?=some x:=hx
   rw [ei,hx'] at hi
   cases hi
   subst et
   exact .inr ⟨_,List.getElem?_set_self hv,List.mem_append_right _ (List.mem_singleton.mpr rfl)⟩
 ·have h1':m1=false:=h1
  subst h1'
  refine ⟨by rw [cm_append,cm_out,List.append_nil];exact P.came,fun i a t hi ht=>?_⟩
  rw [cm_append,cm_out,List.append_nil] at ht
  refine moved (l:=s.left++[x]) hc (fun a ha=>?_) (fun a ha=>List.mem_append_left _ ha) a t (P.at_ i a t hi ht)
  rcases List.mem_append.mp ha with z | z
  ·exact .inl z
  ·exact .inr (List.mem_append_right _ z)
 ·have h1':m1=false:=h1
  subst h1'
  refine ⟨by rw [cm_append,cm_out,List.append_nil];exact P.came,fun i a t hi ht=>?_⟩
  rw [cm_append,cm_out,List.append_nil] at ht
  refine moved (l:=s.left++[x]) hc (fun a ha=>?_) (fun a ha=>List.mem_append_left _ ha) a t (P.at_ i a t hi ht)
  rcases List.mem_cons.mp ha with z | z
  ·exact .inr (by rw [z];simp)
  ·exact .inl z
theorem Placed.steps{T:List Int}{bl:Bool}:∀ {p q:List Mv} {s st:St},Placed T p s->steps T bl s q=some st->(∀ m∈q,m.2 < s.tr.length)->Placed T (p++q) st
 | p,[],s,st,P,h,_=>by
  have e:s=st:=by simpa [Yd.steps] using h
  rw [List.append_nil,<- e];exact P
 | p,m :: q,s,st,P,h,hv=>by
  obtain ⟨s',h1,h2⟩:=steps_cons h
  have:=Placed.steps (P.step h1 (hv m List.mem_cons_self)) h2 (fun m' hm=>by rw [step_len h1];exact hv m' (List.mem_cons_of_mem _ hm))
  rw [List.append_assoc] at this
  exact this
theorem cm_split:∀ {ms:List Mv} {j t:Nat},(cm ms)[j]?=some t->∃ p q,ms=p++(true,t) :: q /\ (cm p).length=j
 | [],j,t,h=>by simp [cm] at h
 | (true,t') :: r,j,t,h=>by
  have e:cm ((true,t') :: r)=t' :: cm r:=rfl
  rw [e] at h
  cases j with
  | zero=>
   have:t'=t:=by simpa using h
   subst this
   exact ⟨[],r,rfl,rfl⟩
  | succ j=>
   obtain ⟨p,q,e1,e2⟩:=cm_split (ms:=r) (j:=j) (t:=t) (by simpa using h)
   exact ⟨(true,t') :: p,q,by rw [e1];rfl,by show (t' :: cm p).length=_;rw [List.length_cons,e2]⟩
 | (false,t') :: r,j,t,h=>by
  have e:cm ((false,t') :: r)=cm r:=rfl
  rw [e] at h
  obtain ⟨p,q,e1,e2⟩:=cm_split (ms:=r) (j:=j) (t:=t) h
  exact ⟨(false,t') :: p,q,by rw [e1];rfl,e2⟩
structure Brings(T:List Int)(bl:Bool)(n:Nat)(ms:List Mv):Prop where
 valid:∀ m∈ms,m.2 < n
 ex:∃ st,steps T bl (init n) ms=some st /\ st.left.length=T.length /\ st.left.Pairwise (· < ·)
theorem Brings.cm_len{T:List Int}{bl:Bool}{n:Nat}{ms:List Mv}(B:Brings T bl n ms):(cm ms).length=T.length:=by
 obtain ⟨st,h,hl,hp⟩:=B.ex
 have hv:∀ m∈ms,m.2 < (init n).tr.length:=fun m hm=>by show m.2 < (List.replicate n ([]:List Int)).length;rw [List.length_replicate];exact B.valid m hm
 have P:=(placed_init T n).steps h hv
 rw [List.nil_append] at P
 rw [<- P.came,(done_of h B.valid hl).came]
theorem Brings.cm_lt{T:List Int}{bl:Bool}{n:Nat}{ms:List Mv}(B:Brings T bl n ms){i t:Nat}(h:(cm ms)[i]?=some t):t < n:=by
 have hm:t∈cm ms:=List.mem_of_getElem? h
 unfold cm at hm
 obtain ⟨m,hm',rfl⟩:=List.mem_map.mp hm
 exact B.valid m (List.mem_filter.mp hm').1
theorem Brings.two{T:List Int}{bl:Bool}{n:Nat}{ms:List Mv}(B:Brings T bl n ms){i j t:Nat}{a b:Int}(hij:i < j)(hi:T[i]?=some a)(hj:T[j]?=some b)(ci:(cm ms)[i]?=some t)(cj:(cm ms)[j]?=some t):
  (if bl=true then b < a else a < b) \/ ∀ k x,j <= k->T[k]?=some x->a < x:=by
 obtain ⟨st,h,hl,hp⟩:=B.ex
 have D:=done_of h B.valid hl
 obtain ⟨p,q,rfl,hpl⟩:=cm_split cj
 have hv0:∀ m∈p,m.2 < (init n).tr.length:=fun m hm=>by show m.2 < (List.replicate n ([]:List Int)).length;rw [List.length_replicate];exact B.valid m (List.mem_append_left _ hm)
 rw [steps_append] at h
 cases e:steps T bl (init n) p with
 | none=>rw [e] at h;cases h
 | some s=>
  rw [e] at h
  have h':steps T bl s ((true,t) :: q)=some st:=h
  have P:=(placed_init T n).steps e hv0
  rw [List.nil_append] at P
  have hlen:s.tr.length=n:=by rw [steps_len e];show (List.replicate n ([]:List Int)).length=n;rw [List.length_replicate]
  have hvq:∀ m∈(true,t) :: q,m.2 < s.tr.length:=fun m hm=>by rw [hlen];exact B.valid m (List.mem_append_right _ hm)
  have ci':(cm p)[i]?=some t:=by
   rw [cm_append,List.getElem?_append_left (by omega)] at ci
   exact ci
  rcases P.at_ i a t hi ci' with ha | ⟨c,hc,ha⟩
  ·right
   intro k x hk hx
   obtain ⟨w,ew,hw⟩:=comes h' hvq D (k:=k) (x:=x) (by rw [P.came];omega) hx
   rw [ew,List.pairwise_append] at hp
   exact hp.2.2 a ha x hw
  ·left
   obtain ⟨s',h1,h2⟩:=steps_cons h'
   have hvm:=hvq (true,t) List.mem_cons_self
   rcases step_cases h1 hvm with ⟨_,x,d,hx,hd,es⟩ | ⟨z,_⟩ | ⟨z,_⟩
   ·have hd':s.tr[t]?=some d:=hd
    rw [hc] at hd'
    cases hd'
    rw [P.came,hpl,hj] at hx
    cases hx
    obtain ⟨u,v,rfl⟩:=List.append_of_mem ha
    refine lifo (j:=t) (u:=u) (v:=v) (w:=[]) h2 (fun m hm=>by rw [step_len h1];exact hvq m (List.mem_cons_of_mem _ hm)) D hp ?_
    rw [es]
    exact List.getElem?_set_self hvm
   ·cases z
   ·cases z
theorem Brings.odds{T:List Int}{n:Nat}{ms:List Mv}(B:Brings T true n ms){i j k t:Nat}{a b x:Int}(hij:i < j)(hjk:j < k)(hi:T[i]?=some a)(hj:T[j]?=some b)(hk:T[k]?=some x)(h1:x < a)(h2:a < b)(ci:(cm ms)[i]?=some t)(cj:(cm ms)[j]?=some t):False:=by
 rcases B.two hij hi hj ci cj with h | h
 ·have:b < a:=by simpa using h
  omega
 ·have:=h k x (by omega) hk
  omega
theorem Brings.track{T:List Int}{bl:Bool}{n:Nat}{ms:List Mv}(B:Brings T bl n ms){i:Nat}(h:i < T.length):∃ t,(cm ms)[i]?=some t /\ t < n:=by
 have hl:=B.cm_len
 have:i < (cm ms).length:=by omega
 exact ⟨_,List.getElem?_eq_getElem this,B.cm_lt (List.getElem?_eq_getElem this)⟩
theorem Brings.no_three{T:List Int}{ms:List Mv}(B:Brings T true 1 ms){i j k:Nat}{a b x:Int}(hij:i < j)(hjk:j < k)(hi:T[i]?=some a)(hj:T[j]?=some b)(hk:T[k]?=some x)(h1:x < a)(h2:a < b):False:=by
 obtain ⟨t,ci,ht⟩:=B.track (List.getElem?_eq_some_iff.mp hi).1
 obtain ⟨t',cj,ht'⟩:=B.track (List.getElem?_eq_some_iff.mp hj).1
 have e:t=t':=by omega
 subst e
 exact B.odds hij hjk hi hj hk h1 h2 ci cj
theorem odd_ring{c:Nat->Nat}{m:Nat}(h2:∀ k,k < m->c k < 2)(hd:∀ k,k < m->c k≠c ((k+1) % m))(hodd:m % 2=1)(h3:1 < m):False:=by
 have key:∀ k,k < m->c k=(c 0+k) % 2:=by
  intro k
  induction k with
  | zero=>intro h;have:=h2 0 h;omega
  | succ k ih=>
   intro h
   have e:=ih (by omega)
   have d:=hd k (by omega)
   rw [Nat.mod_eq_of_lt h] at d
   have a1:=h2 k (by omega)
   have a2:=h2 (k+1) h
   omega
 have e:=key (m - 1) (by omega)
 have d:=hd (m - 1) (by omega)
 rw [show m - 1+1=m by omega,Nat.mod_self] at d
 have a:=h2 0 (by omega)
 omega
def AtOdds(T:List Int)(p q r:Nat):Prop:=min p q < max p q /\ max p q < r /\ r < T.length /\ T.getD r 0 < T.getD (min p q) 0 /\ T.getD (min p q) 0 < T.getD (max p q) 0
theorem Brings.no_odd{T:List Int}{ms:List Mv}(B:Brings T true 2 ms){ps sh:Nat->Nat}{m:Nat}(hodd:m % 2=1)(h3:1 < m)(h:∀ k,k < m->AtOdds T (ps k) (ps ((k+1) % m)) (sh k)):False:=by
 have hb:∀ k,k < m->ps k < T.length:=fun k hk=>by
  obtain ⟨a,b,c,_⟩:=h k hk
  omega
 refine odd_ring (c:=fun k=>(cm ms).getD (ps k) 0) (m:=m) (fun k hk=>?_) (fun k hk z=>?_) hodd h3
 ·obtain ⟨t,e1,ht⟩:=B.track (hb k hk)
  show (cm ms).getD (ps k) 0 < 2
  rw [List.getD_eq_getElem?_getD,e1]
  exact ht
 ·obtain ⟨a,b,c,d,e⟩:=h k hk
  have hk':(k+1) % m < m:=Nat.mod_lt _ (by omega)
  obtain ⟨t,e1,_⟩:=B.track (hb k hk)
  obtain ⟨t',e2,_⟩:=B.track (hb _ hk')
  have z':(cm ms).getD (ps k) 0=(cm ms).getD (ps ((k+1) % m)) 0:=z
  rw [List.getD_eq_getElem?_getD,List.getD_eq_getElem?_getD,e1,e2] at z'
  have z2:t=t':=z'
  subst z2
  have g:∀ p,p < T.length->T[p]?=some (T.getD p 0):=fun p hp=>by rw [List.getD_eq_getElem?_getD,List.getElem?_eq_getElem hp];rfl
  have c1:(cm ms)[min (ps k) (ps ((k+1) % m))]?=some t:=by
   rcases Nat.le_total (ps k) (ps ((k+1) % m)) with z | z
   ·rw [Nat.min_eq_left z];exact e1
   ·rw [Nat.min_eq_right z];exact e2
  have c2:(cm ms)[max (ps k) (ps ((k+1) % m))]?=some t:=by
   rcases Nat.le_total (ps k) (ps ((k+1) % m)) with z | z
   ·rw [Nat.max_eq_right z];exact e2
   ·rw [Nat.max_eq_left z];exact e1
  exact B.odds a b (g _ (by omega)) (g _ (by omega)) (g _ c) d e c1 c2
def St.map(f:Int->Int)(s:St):St:=⟨s.tr.map (List.map f),s.left.map f,s.came⟩
theorem step_map{T:List Int}{bl:Bool}(f:Int->Int)(s:St)(m:Mv):step (T.map f) bl (s.map f) m=(step T bl s m).map (St.map f):=by
 have hD:(s.tr.map (List.map f)).getD m.2 []=(s.tr.getD m.2 []).map f:=by
  rw [List.getD_eq_getElem?_getD,List.getD_eq_getElem?_getD,List.getElem?_map]
  cases s.tr[m.2]?<;>rfl
 unfold step
 show (if m.1=true then _ else _)=_
 split
 ·show (match (T.map f)[s.came]? with | some x=>_ | none=>_)=_
  rw [List.getElem?_map]
  cases T[s.came]? with
  | none=>rfl
  | some x=>
   show some (St.mk ((s.tr.map (List.map f)).set m.2 ((s.tr.map (List.map f)).getD m.2 []++[f x])) (s.left.map f) (s.came+1))=some (St.map f ⟨s.tr.set m.2 (s.tr.getD m.2 []++[x]),s.left,s.came+1⟩)
   unfold St.map
   rw [hD,List.map_set,List.map_append]
   rfl
 ·split
  ·show (match ((s.tr.map (List.map f)).getD m.2 []).getLast? with | some x=>_ | none=>_)=_
   rw [hD,List.getLast?_map]
   cases (s.tr.getD m.2 []).getLast? with
   | none=>rfl
   | some x=>
    show some (St.mk ((s.tr.map (List.map f)).set m.2 ((s.tr.map (List.map f)).getD m.2 []).dropLast) (s.left.map f++[f x]) s.came)=some (St.map f ⟨s.tr.set m.2 (s.tr.getD m.2 []).dropLast,s.left++[x],s.came⟩)
    unfold St.map
    rw [hD,List.map_set,List.map_append,List.map_dropLast]
    rfl
  ·show (match (s.tr.map (List.map f)).getD m.2 [] with | x :: r=>_ | []=>_)=_
   rw [hD]
   cases s.tr.getD m.2 [] with
   | nil=>rfl
   | cons x r=>
    show some (St.mk ((s.tr.map (List.map f)).set m.2 (r.map f)) (s.left.map f++[f x]) s.came)=some (St.map f ⟨s.tr.set m.2 r,s.left++[x],s.came⟩)
    unfold St.map
    rw [List.map_set,List.map_append]
    rfl
theorem steps_map{T:List Int}{bl:Bool}(f:Int->Int):∀ (s:St) (ms:List Mv),steps (T.map f) bl (s.map f) ms=(steps T bl s ms).map (St.map f)
 | s,[]=>rfl
 | s,m :: r=>by
  show (step (T.map f) bl (s.map f) m).bind (fun s'=>steps (T.map f) bl s' r)=((step T bl s m).bind fun s'=>steps T bl s' r).map (St.map f)
  rw [step_map]
  cases step T bl s m with
  | none=>rfl
  | some s'=>exact steps_map f s' r
theorem init_map(f:Int->Int)(n:Nat):(init n).map f=init n:=by
 unfold init St.map
 rw [List.map_replicate]
 rfl
end Yd
namespace Yd
theorem perm_of_all:∀ {l m:List Int},l.Nodup->(∀ x∈l,x∈m)->m.length <= l.length->m.Perm l
 | [],m,_,_,h=>by
  have:m=[]:=List.length_eq_zero_iff.mp (by simpa using h)
  rw [this]
 | a :: r,m,hn,hs,h=>by
  have ha:a∈m:=hs a List.mem_cons_self
  have hn':=List.nodup_cons.mp hn
  have p1:m.Perm (a :: m.erase a):=List.perm_cons_erase ha
  have hl:(m.erase a).length <= r.length:=by
   rw [List.length_erase_of_mem ha]
   simp only [List.length_cons] at h
   omega
  have p2:=perm_of_all (m:=m.erase a) hn'.2 (fun x hx=>by
   have hne:x≠a:=fun z=>hn'.1 (z ▸ hx)
   exact (List.mem_erase_of_ne hne).mpr (hs x (List.mem_cons_of_mem _ hx))) hl
  exact p1.trans (List.Perm.cons a p2)
def R(n:Nat):List Int:=(List.range n).map fun (i:Nat)=>(i:Int)
theorem R_len(n:Nat):(R n).length=n:=by unfold R;rw [List.length_map,List.length_range]
theorem R_get{n i:Nat}(h:i < n):(R n)[i]?=some (i:Int):=by
 unfold R
 rw [List.getElem?_map,List.getElem?_range h]
 rfl
theorem R_lt(n:Nat):(R n).Pairwise (· < ·):=by
 unfold R
 rw [List.pairwise_map]
 exact List.Pairwise.imp (fun h=>by omega) List.pairwise_lt_range
theorem R_nodup(n:Nat):(R n).Nodup:=List.Pairwise.imp (fun h=>Int.ne_of_lt h) (R_lt n)
theorem R_mem{n:Nat}{x:Int}(h:x∈R n):0 <= x /\ x < n:=by
 unfold R at h
 obtain ⟨i,hi,rfl⟩:=List.mem_map.mp h
 have:=List.mem_range.mp hi
 omega
theorem clear_blind{T:List Int}:∀ {c:List Int} {s:St} {j:Nat},s.tr[j]?=some c->steps T true s (List.replicate c.length (false,j))=some ⟨s.tr.set j [],s.left++c.reverse,s.came⟩:=by
 intro c
 generalize hn:c.length=n
 induction n generalizing c with
 | zero=>
  intro s j h
  have:c=[]:=List.length_eq_zero_iff.mp hn
  subst this
  have hj:=(List.getElem?_eq_some_iff.mp h)
  show some s=_
  rw [List.reverse_nil,List.append_nil]
  have e:s.tr.set j []=s.tr:=by
   refine List.ext_getElem? fun i=>?_
   by_cases hi:j=i
   ·subst hi
    rw [List.getElem?_set_self hj.1,h]
   ·rw [List.getElem?_set_ne hi]
  rw [e]
 | succ n ih=>
  intro s j h
  have hne:c≠[]:=fun z=>by rw [z] at hn;cases hn
  have ec:=List.dropLast_concat_getLast hne
  have hj:=(List.getElem?_eq_some_iff.mp h).1
  have hs:step T true s (false,j)=some ⟨s.tr.set j c.dropLast,s.left++[c.getLast hne],s.came⟩:=by
   unfold step
   rw [if_neg Bool.false_ne_true,if_pos rfl]
   have hD:s.tr.getD j []=c:=by rw [List.getD_eq_getElem?_getD,h];rfl
   simp only [hD]
   rw [List.getLast?_eq_some_getLast hne]
  rw [List.replicate_succ]
  show (step T true s (false,j)).bind (fun s'=>steps T true s' (List.replicate n (false,j)))=_
  rw [hs]
  show steps T true _ _=_
  rw [ih (c:=c.dropLast) (by rw [List.length_dropLast,hn];rfl) (j:=j) (s:=⟨s.tr.set j c.dropLast,s.left++[c.getLast hne],s.came⟩) (List.getElem?_set_self hj)]
  show some (St.mk ((s.tr.set j c.dropLast).set j []) (s.left++[c.getLast hne]++c.dropLast.reverse) s.came)=_
  rw [List.set_set,List.append_assoc]
  congr 3
  conv=>rhs;rw [<- ec]
  rw [List.reverse_append]
  rfl
theorem clear_through{T:List Int}:∀ {c:List Int} {s:St} {j:Nat},s.tr[j]?=some c->steps T false s (List.replicate c.length (false,j))=some ⟨s.tr.set j [],s.left++c,s.came⟩
 | [],s,j,h=>by
  have hj:=(List.getElem?_eq_some_iff.mp h)
  show some s=_
  rw [List.append_nil]
  have e:s.tr.set j []=s.tr:=by
   refine List.ext_getElem? fun i=>?_
   by_cases hi:j=i
   ·subst hi
    rw [List.getElem?_set_self hj.1,h]
   ·rw [List.getElem?_set_ne hi]
  rw [e]
 | x :: c,s,j,h=>by
  have hj:=(List.getElem?_eq_some_iff.mp h).1
  have hs:step T false s (false,j)=some ⟨s.tr.set j c,s.left++[x],s.came⟩:=by
   unfold step
   rw [if_neg Bool.false_ne_true,if_neg Bool.false_ne_true]
   have hD:s.tr.getD j []=x :: c:=by rw [List.getD_eq_getElem?_getD,h];rfl
   simp only [hD]
  rw [List.length_cons,List.replicate_succ]
  show (step T false s (false,j)).bind (fun s'=>steps T false s' (List.replicate c.length (false,j)))=_
  rw [hs]
  show steps T false _ _=_
  rw [clear_through (c:=c) (j:=j) (s:=⟨s.tr.set j c,s.left++[x],s.came⟩) (List.getElem?_set_self hj)]
  show some (St.mk ((s.tr.set j c).set j []) (s.left++[x]++c) s.came)=_
  rw [List.set_set,List.append_assoc]
  rfl
theorem clear{T:List Int}{bl:Bool}{c:List Int}{s:St}{j:Nat}(h:s.tr[j]?=some c):steps T bl s (List.replicate c.length (false,j))=some ⟨s.tr.set j [],s.left++(if bl=true then c.reverse else c),s.came⟩:=by
 cases bl with
 | true=>exact clear_blind h
 | false=>exact clear_through h
theorem steps_trans{T:List Int}{bl:Bool}{s s' s'':St}{a b:List Mv}(h1:steps T bl s a=some s')(h2:steps T bl s' b=some s''):steps T bl s (a++b)=some s'':=by
 rw [steps_append,h1]
 exact h2
theorem left_perm{n k:Nat}{bl:Bool}{ms:List Mv}{st:St}(h:steps (R n) bl (init k) ms=some st)(hv:∀ m∈ms,m.2 < k)(hl:st.left.length=n):st.left.Perm (R n):=by
 have D:=done_of h hv (by rw [hl,R_len])
 refine perm_of_all (R_nodup n) (fun x hx=>?_) (by rw [R_len,hl];exact Nat.le_refl _)
 obtain ⟨i,hi,e⟩:=List.mem_iff_getElem.mp hx
 obtain ⟨w,ew,hw⟩:=comes h (fun m hm=>by show m.2 < (List.replicate k ([]:List Int)).length;rw [List.length_replicate];exact hv m hm) D (k:=i) (x:=x) (Nat.zero_le _) (by rw [List.getElem?_eq_getElem hi,e])
 rw [ew]
 exact List.mem_append_right _ hw
theorem sum_nils(n:Nat):((List.replicate n ([]:List Int)).map List.length).sum=0:=by
 rw [List.map_replicate]
 simp
theorem cleared{tr:List (List Int)}{j:Nat}(h:j < tr.length):(List.replicate j ([]:List Int)++tr.drop j).set j []=List.replicate (j+1) []++tr.drop (j+1):=by
 rw [List.set_append_right _ _ (by rw [List.length_replicate];exact Nat.le_refl _),List.length_replicate,Nat.sub_self,List.drop_eq_getElem_cons h,List.set_cons_zero,List.replicate_succ',List.append_assoc]
 rfl
theorem made_brings{n k:Nat}{bl:Bool}{ms:List Mv}{st:St}{T:List Int}(h:steps (R n) bl (init k) ms=some st)(hv:∀ m∈ms,m.2 < k)(hl:st.left.length=n)(hT:T.length=n)
  (hat:∀ (j:Nat) (x:Int),st.left[j]?=some x->T[x.toNat]?=some (j:Int)):Brings T bl k ms /\ T.Perm (R n):=by
 have D:=done_of h hv (by rw [hl,R_len])
 have all:∀ x∈R n,x∈st.left:=fun x hx=>by
  obtain ⟨i,hi,e⟩:=List.mem_iff_getElem.mp hx
  obtain ⟨w,ew,hw⟩:=comes h (fun m hm=>by show m.2 < (List.replicate k ([]:List Int)).length;rw [List.length_replicate];exact hv m hm) D (k:=i) (x:=x) (Nat.zero_le _) (by rw [List.getElem?_eq_getElem hi,e])
  rw [ew]
  exact List.mem_append_right _ hw
 have hp:st.left.Perm (R n):=perm_of_all (R_nodup n) all (by rw [R_len,hl];exact Nat.le_refl _)
 have e1:(R n).map (fun x=>T.getD x.toNat 0)=T:=by
  refine List.ext_getElem? fun i=>?_
  rw [List.getElem?_map]
  by_cases hi:i < n
  ·rw [R_get hi]
   show some (T.getD (i:Int).toNat 0)=T[i]?
   rw [Int.toNat_natCast,List.getD_eq_getElem?_getD,List.getElem?_eq_getElem (by omega)]
   rfl
  ·rw [List.getElem?_eq_none_iff.mpr (by rw [R_len];omega),List.getElem?_eq_none_iff.mpr (by omega)]
   rfl
 have e2:st.left.map (fun x=>T.getD x.toNat 0)=R n:=by
  refine List.ext_getElem? fun j=>?_
  rw [List.getElem?_map]
  by_cases hj:j < n
  ·obtain ⟨x,hx⟩:∃ x,st.left[j]?=some x:=⟨_,List.getElem?_eq_getElem (by omega)⟩
   rw [hx,R_get hj]
   show some (T.getD x.toNat 0)=_
   rw [List.getD_eq_getElem?_getD,hat j x hx]
   rfl
  ·rw [List.getElem?_eq_none_iff.mpr (by omega),List.getElem?_eq_none_iff.mpr (by rw [R_len];omega)]
   rfl
 have h2:=steps_map (T:=R n) (bl:=bl) (fun x=>T.getD x.toNat 0) (init k) ms
 rw [h,init_map,e1] at h2
 refine ⟨⟨hv,st.map _,h2,?_,?_⟩,?_⟩
 ·show (st.left.map _).length=T.length
  rw [List.length_map,hl,hT]
 ·show (st.left.map _).Pairwise _
  rw [e2]
  exact R_lt n
 ·have:=hp.map (fun x=>T.getD x.toNat 0)
  rw [e1,e2] at this
  exact this.symm
end Yd
namespace My
open PySem L2
open PySem.W (Dat)
abbrev Gm:=Str × Int
def gmv(n:Nat)(g:Gm):Option Yd.Mv:=if 0 <= g.2 /\ g.2 < n then (if g.1=Str.ofString "in" then some (true,g.2.toNat) else if g.1=Str.ofString "out" then some (false,g.2.toNat) else none) else none
def gstep(T:List Int)(b:Bool)(n:Nat)(s:Yd.St)(g:Gm):Option Yd.St:=(gmv n g).bind fun m=>Yd.step T b s m
def gsteps(T:List Int)(b:Bool)(n:Nat):Yd.St->List Gm->Option Yd.St
 | s,[]=>some s
 | s,g :: r=>(gstep T b n s g).bind fun s'=>gsteps T b n s' r
theorem gmv_lt{n:Nat}{g:Gm}{m:Yd.Mv}(h:gmv n g=some m):m.2 < n:=by
 unfold gmv at h
 split at h
 ·rename_i hr
  split at h
  ·cases h;show g.2.toNat < n;omega
  ·split at h
   ·cases h;show g.2.toNat < n;omega
   ·cases h
 ·cases h
theorem gsteps_steps{T:List Int}{b:Bool}{n:Nat}:∀ {s s':Yd.St} {gs:List Gm},gsteps T b n s gs=some s'->∃ ms,Yd.steps T b s ms=some s' /\ (∀ m∈ms,m.2 < n) /\ ms.length=gs.length
 | s,s',[],h=>⟨[],h,fun m hm=>by (cases hm),rfl⟩
 | s,s',g :: r,h=>by
  have h1:(gstep T b n s g).bind (fun s''=>gsteps T b n s'' r)=some s':=h
  cases e:gstep T b n s g with
  | none=>rw [e] at h1;cases h1
  | some s1=>
   rw [e] at h1
   obtain ⟨ms,a1,a2,a3⟩:=gsteps_steps h1
   unfold gstep at e
   cases em:gmv n g with
   | none=>rw [em] at e;cases e
   | some m=>
    rw [em] at e
    refine ⟨m :: ms,?_,fun x hx=>?_,by rw [List.length_cons,List.length_cons,a3]⟩
    ·show (Yd.step T b s m).bind (fun s''=>Yd.steps T b s'' ms)=some s'
     rw [show Yd.step T b s m=some s1 from e]
     exact a1
    ·rcases List.mem_cons.mp hx with rfl | z
     ·exact gmv_lt em
     ·exact a2 x z
def gOf(m:Yd.Mv):Gm:=(deed m.1,(m.2:Int))
theorem gmv_of{n:Nat}{m:Yd.Mv}(h:m.2 < n):gmv n (gOf m)=some m:=by
 obtain ⟨m1,m2⟩:=m
 unfold gmv gOf
 rw [if_pos ⟨by show (0:Int) <= (m2:Int);omega,by show (m2:Int) < n;have h':m2 < n:=h;omega⟩]
 cases m1 with
 | true=>
  rw [if_pos (show deed true=Str.ofString "in" from rfl)]
  show some (true,(m2:Int).toNat)=_
  rw [Int.toNat_natCast]
 | false=>
  rw [if_neg (show ¬ deed false=Str.ofString "in" from by decide +kernel),if_pos (show deed false=Str.ofString "out" from rfl)]
  show some (false,(m2:Int).toNat)=_
  rw [Int.toNat_natCast]
theorem gsteps_of{T:List Int}{b:Bool}{n:Nat}:∀ {s:Yd.St} {ms:List Yd.Mv},(∀ m∈ms,m.2 < n)->gsteps T b n s (ms.map gOf)=Yd.steps T b s ms
 | s,[],_=>rfl
 | s,m :: r,h=>by
  show (gstep T b n s (gOf m)).bind (fun s'=>gsteps T b n s' (r.map gOf))=(Yd.step T b s m).bind fun s'=>Yd.steps T b s' r
  unfold gstep
  rw [gmv_of (h m List.mem_cons_self)]
  show (Yd.step T b s m).bind _=_
  cases Yd.step T b s m with
  | none=>rfl
  | some s'=>exact gsteps_of fun x hx=>h x (List.mem_cons_of_mem _ hx)
def GmT(H:Hp)(r:Addr)(g:Gm):Prop:=H r=some (.tup [.str g.1,.int g.2])
def GMovesAt(H:Hp)(a:Addr)(gs:List Gm):Prop:=∃ rs:List Addr,H a=some (.lst (rs.map V.ref)) /\ Paired (GmT H) rs gs
theorem MovesAt.g{H:Hp}{a:Addr}{ms:List Yd.Mv}(h:MovesAt H a ms):GMovesAt H a (ms.map gOf):=by
 obtain ⟨rs,e,p⟩:=h
 refine ⟨rs,e,?_⟩
 clear e
 induction p with
 | nil=>exact .nil
 | cons h t ih=>exact .cons h ih
def rises(m:Int):Int->List Int->Bool
 | _,[]=>true
 | last,p :: r=>decide (last < p)&&decide (p < m)&&rises m p r
theorem rises_split{m:Int}:∀ {last:Int} {ps:List Int},rises m last ps=true↔(last :: ps).Pairwise (· < ·) /\ ∀ p∈ps,p < m
 | last,[]=>by simp [rises]
 | last,p :: r=>by
  unfold rises
  rw [Bool.and_eq_true,Bool.and_eq_true,decide_eq_true_iff,decide_eq_true_iff,rises_split (last:=p) (ps:=r)]
  constructor
  ·rintro ⟨⟨h1,h2⟩,h3,h4⟩
   refine ⟨?_,fun q hq=>?_⟩
   ·rw [List.pairwise_cons]
    refine ⟨fun q hq=>?_,h3⟩
    rcases List.mem_cons.mp hq with rfl | z
    ·exact h1
    ·have:=(List.pairwise_cons.mp h3).1 q z;omega
   ·rcases List.mem_cons.mp hq with rfl | z
    ·exact h2
    ·exact h4 q z
  ·rintro ⟨h1,h2⟩
   have h3:=List.pairwise_cons.mp h1
   exact ⟨⟨h3.1 p List.mem_cons_self,h2 p List.mem_cons_self⟩,h3.2,fun q hq=>h2 q (List.mem_cons_of_mem _ hq)⟩
theorem perm_swap{l:List Int}{i j:Nat}{a b:Int}(hi:l[i]?=some a)(hj:l[j]?=some b):((l.set i b).set j a).Perm l:=by
 have h1:=List.getElem?_eq_some_iff.mp hi
 have h2:=List.getElem?_eq_some_iff.mp hj
 have e:=Array.swap_perm (xs:=l.toArray) (i:=i) (j:=j) (by simpa using h1.1) (by simpa using h2.1)
 have e':=e.toList
 have q:(l.toArray.swap i j (by simpa using h1.1) (by simpa using h2.1)).toList=(l.set i b).set j a:=by
  rw [Array.toList_swap]
  simp [h1.2,h2.2]
 rw [q] at e'
 exact e'
end My
namespace L2
open PySem PySem.Spec PyProof.Rows
section
variable {X:Cx} {K:PySem.W.Frag}
def rRangeV:List V->Hp->VK->Prop:=fun xs H Q=>∃ i j:Int,(xs=[.int j] /\ i=0 \/ xs=[.int i,.int j]) /\ ∀ r,H r=none->Q (.ref r) (upd H r (.rng i j))
theorem call_rangeV:CallR X (.type "range") rRangeV:=by
 intro pins s σ H xs us Q I r h
 obtain ⟨i,j,e,q⟩:=h
 rcases e with ⟨rfl,rfl⟩ | rfl
 ·obtain ⟨u,rfl,ru⟩:=vals1 r
  obtain ⟨t,rfl⟩:=ru
  refine call_range_1 ⟨.ref s.heap.objs.size,_,I.laid (o:=.rng 0 j) (fun b o e=>Heap.get?_push_of_some _ e) (Nat.le_refl _) ⟨_,_,_,Heap.get?_push_size _ rfl⟩,rfl,q _ (I.hok.fresh (Nat.le_refl _))⟩
 ·obtain ⟨u,w',rfl,ru,rw'⟩:=vals2 r
  obtain ⟨t,rfl⟩:=ru
  obtain ⟨t',rfl⟩:=rw'
  refine call_range_2 ⟨.ref s.heap.objs.size,_,I.laid (o:=.rng i j) (fun b o e=>Heap.get?_push_of_some _ e) (Nat.le_refl _) ⟨_,_,_,Heap.get?_push_size _ rfl⟩,rfl,q _ (I.hok.fresh (Nat.le_refl _))⟩
theorem lay_small:∀ {ns:List Int},(∀ x∈ns,x.natAbs < 2 ^ 20)->PyData.canLayAll0 (ns.map .int)=true /\ PyData.depthAll (ns.map .int)=0 /\ PyData.weightAll (ns.map .int) <= 21*ns.length
 | [],_=>⟨rfl,rfl,Nat.le_refl _⟩
 | a :: r,h=>by
  obtain ⟨h1,h2,h3⟩:=lay_small (ns:=r) fun x hx=>h x (List.mem_cons_of_mem _ hx)
  have ha:=h a List.mem_cons_self
  have hw:PyData.weight (.int a) <= 20:=by
   unfold PyData.weight
   by_cases e:(a==0)=true
   ·rw [if_pos e];exact Nat.zero_le _
   ·rw [if_neg e]
    have hne:a.natAbs≠0:=fun z=>e (by simpa using Int.natAbs_eq_zero.mp z)
    exact (Nat.log2_lt hne).mpr ha
  refine ⟨?_,?_,?_⟩
  ·show (PyData.canLay0 (.int a)&&PyData.canLayAll0 (r.map .int))=true
   rw [h1]
   rfl
  ·show max (PyData.depth (.int a)) (PyData.depthAll (r.map .int))=0
   rw [h2]
   rfl
  ·show PyData.weight (.int a)+1+PyData.weightAll (r.map .int) <= 21*(r.length+1)
   omega
theorem lay_ints{ns:List Int}(h:∀ x∈ns,x.natAbs < 2 ^ 20)(hz:ns.length <= 40000):PyData.layable0 (.list (ns.map .int))=true:=by
 obtain ⟨h1,h2,h3⟩:=lay_small h
 unfold PyData.layable0
 have e1:PyData.canLay0 (.list (ns.map .int))=true:=h1
 have e2:PyData.depth (.list (ns.map .int))=1:=by
  show PyData.depthAll (ns.map .int)+1=1
  rw [h2]
 have e3:PyData.weight (.list (ns.map .int)) <= 2 ^ 20:=by
  show PyData.weightAll (ns.map .int) <= 2 ^ 20
  omega
 rw [e1,e2,decide_eq_true e3]
 rfl
def rIndex(K:PySem.W.Frag):V->List V->Hp->VK->Prop:=fun x vs H Q=>∃ (l:Addr) (ns:List Int) (k:Int),x=.ref l /\ vs=[.int k] /\ SqL K H l (ns.map V.int) /\ ns.length <= 40000 /\ (∀ x∈ns,x.natAbs < 2 ^ 20) /\ k∈ns /\ Q (.int (ns.idxOf k:Nat)) H
theorem mt_index(hK:X.K=K):MtM X "list.index" (rIndex K):=by
 subst hK
 intro pins s σ H x vs v us Q I rx rv h
 obtain ⟨l,ns,k,rfl,rfl,hq,hz,hb,hk,q⟩:=h
 cases rx
 obtain ⟨u,rfl,ru⟩:=rv.one
 obtain ⟨t,rfl⟩:=ru
 obtain ⟨its,r,pl,_⟩:=I.list hq
 refine index_list_ints pl.isList (intsAre_of r) (lay_ints hb hz) hk ⟨.int _,H,I.tok _,⟨_,rfl⟩,q⟩
end
end L2
namespace L2
open PySem PySem.Spec PyProof.Rows
structure InsT(K:PySem.W.Frag)(C:Addr):Prop where
 ha:findIn K (.ref C) "__class__"=some (some (.builtin "object.__class__"))
 hn:specialIn K (.builtin "object.__class__") "__get__"=some (some (.builtin "getset_descriptor.__get__"))
 htk:takesIn K (.builtin "object.__class__")=some true
 hm:mroIn K C (.type "object")=some true
theorem b_range:bootBuiltins ("range":Str)=some (.type "range"):=by decide +kernel
theorem InsT.ty{K:PySem.W.Frag}{C p dx:Addr}{H:Hp}{fs:List (Str × V)}(i:InsT K C)(cl:Cls K C)(e:H p=some (.ins C dx fs)):TyOf K H (.ref p) (.ref C):=.ins e cl i.ha i.hn i.htk i.hm
end L2
namespace My
open PySem L2
open PySem.W (Dat)
def shuntB(T:List Int)(b:Bool)(n:Nat)(gs:List Gm):Bool:=match gsteps T b n (Yd.init n) gs with
 | some st=>decide (st.left.length=T.length)&&decide (st.left.Pairwise (· < ·))
 | none=>false
theorem shunt_brings{T:List Int}{b:Bool}{n:Nat}{gs:List Gm}(h:shuntB T b n gs=true):∃ ms,Yd.Brings T b n ms:=by
 unfold shuntB at h
 split at h
 ·rename_i st e
  rw [Bool.and_eq_true,decide_eq_true_iff,decide_eq_true_iff] at h
  obtain ⟨ms,h1,h2,_⟩:=gsteps_steps e
  exact ⟨ms,h2,st,h1,h.1,h.2⟩
 ·cases h
theorem left_perm_of{T:List Int}{b:Bool}{n:Nat}{ms:List Yd.Mv}{st:Yd.St}(hT:T.Nodup)(h:Yd.steps T b (Yd.init n) ms=some st)(hv:∀ m∈ms,m.2 < n)(hl:st.left.length=T.length):st.left.Perm T:=by
 have D:=Yd.done_of h hv hl
 refine Yd.perm_of_all hT (fun x hx=>?_) (by rw [hl];exact Nat.le_refl _)
 obtain ⟨i,hi,e⟩:=List.mem_iff_getElem.mp hx
 obtain ⟨w,ew,hw⟩:=Yd.comes h (fun m hm=>by show m.2 < (List.replicate n ([]:List Int)).length;rw [List.length_replicate];exact hv m hm) D (k:=i) (x:=x) (Nat.zero_le _) (by rw [List.getElem?_eq_getElem hi,e])
 rw [ew]
 exact List.mem_append_right _ hw
theorem sorted_unique:∀ {l m:List Int},l.Pairwise (· <= ·)->m.Pairwise (· <= ·)->l.Perm m->l=m
 | [],m,_,_,h=>by rw [List.nil_perm.mp h]
 | a :: l,m,h1,h2,h=>by
  cases m with
  | nil=>exact absurd h.symm.length_eq (by simp)
  | cons b m=>
   have p1:=List.pairwise_cons.mp h1
   have p2:=List.pairwise_cons.mp h2
   have hab:a <= b:=by
    rcases List.mem_cons.mp (h.mem_iff.mpr (List.mem_cons_self (a:=b) (l:=m))) with z | z
    ·omega
    ·exact p1.1 b z
   have hba:b <= a:=by
    rcases List.mem_cons.mp (h.mem_iff.mp (List.mem_cons_self (a:=a) (l:=l))) with z | z
    ·omega
    ·exact p2.1 a z
   have e:a=b:=by omega
   subst e
   rw [sorted_unique p1.2 p2.2 (List.Perm.cons_inv h)]
theorem strict_of{l:List Int}(h:l.Pairwise (· <= ·))(hn:l.Nodup):l.Pairwise (· < ·):=by
 have:=h.and hn
 exact List.Pairwise.imp (fun ⟨a,b⟩=>by omega) this
theorem left_sorted{T ns:List Int}{b:Bool}{n:Nat}{gs:List Gm}{st:Yd.St}(hT:T.Nodup)(h:gsteps T b n (Yd.init n) gs=some st)(hp:ns.Perm T)(hs:ns.Pairwise (· <= ·)):(st.left=ns)↔shuntB T b n gs=true:=by
 unfold shuntB
 rw [h]
 show _↔(decide _&&decide _)=true
 rw [Bool.and_eq_true,decide_eq_true_iff,decide_eq_true_iff]
 constructor
 ·intro e
  rw [e]
  exact ⟨hp.length_eq,strict_of hs (hp.nodup_iff.mpr hT)⟩
 ·rintro ⟨h1,h2⟩
  obtain ⟨ms,a1,a2,_⟩:=gsteps_steps h
  exact sorted_unique (List.Pairwise.imp (fun z=>Int.le_of_lt z) h2) hs ((left_perm_of hT a1 a2 h1).trans hp.symm)
theorem left_none{T:List Int}{b:Bool}{n:Nat}{gs:List Gm}(h:gsteps T b n (Yd.init n) gs=none):shuntB T b n gs=false:=by
 unfold shuntB
 rw [h]
def threeB(T:List Int)(i j k:Int):Bool:=rises T.length (-1) [i,j,k]&&(decide (T.getD k.toNat 0 < T.getD i.toNat 0)&&decide (T.getD i.toNat 0 < T.getD j.toNat 0))
theorem three_not{T:List Int}{i j k:Int}(h:threeB T i j k=true){ms:List Yd.Mv}(B:Yd.Brings T true 1 ms):False:=by
 unfold threeB at h
 rw [Bool.and_eq_true,Bool.and_eq_true,decide_eq_true_iff,decide_eq_true_iff,rises_split] at h
 obtain ⟨⟨h1,h2⟩,h3,h4⟩:=h
 have p1:=List.pairwise_cons.mp h1
 have p2:=List.pairwise_cons.mp p1.2
 have p3:=List.pairwise_cons.mp p2.2
 have i0:=p1.1 i (by simp)
 have ij:=p2.1 j (by simp)
 have jk:=p3.1 k (by simp)
 have kl:=h2 k (by simp)
 have g:∀ p:Nat,p < T.length->T[p]?=some (T.getD p 0):=fun p hp=>by rw [List.getD_eq_getElem?_getD,List.getElem?_eq_getElem hp];rfl
 exact B.no_three (i:=i.toNat) (j:=j.toNat) (k:=k.toNat) (by omega) (by omega) (g _ (by omega)) (g _ (by omega)) (g _ (by omega)) h3 h4
def ShAt(C:Addr)(H:Hp)(p mA:Addr)(gs:List Gm):Prop:=∃ dx fs,H p=some (.ins C dx fs) /\ fs.lookup (Str.ofString "moves")=some (.ref mA) /\ fs.lookup (Str.ofString "shows")=none /\ GMovesAt H mA gs
def ThAt(C:Addr)(H:Hp)(p:Addr)(i j k:Int):Prop:=∃ dx fs,H p=some (.ins C dx fs) /\ fs.lookup (Str.ofString "first")=some (.int i) /\ fs.lookup (Str.ofString "second")=some (.int j) /\ fs.lookup (Str.ofString "third")=some (.int k) /\ fs.lookup (Str.ofString "shows")=none
end My
namespace My
open PySem L2 PyProof.Rows
def GOk(n:Nat)(gs:List Gm):Prop:=∃ ms:List Yd.Mv,gs=ms.map gOf /\ ∀ m∈ms,m.2 < n
end My
namespace PyProof.Rows
open PySem
section
variable {prog:Program} {w:World} {A:Around} {E:Value->Shared->Prop} {s:Shared}
theorem collect_rng{Q:List Value->Shared->Prop}{r:Addr}{a b c:Int}{t u v:Tok}{n:Nat}(hh:A.handled=none)(hr:IsRange s.heap r a b c t u v)(hsmall:Builtin.Range.small a b c=true)
  (hn:Builtin.Range.rangeSize a b c=n) (hlen:n <= 2 ^ 24)
  (hQ:∀ h' tk acc,(∀ b o,s.heap.get? b=some o->h'.get? b=some o)->ItemsOf (fun i v=>∃ t,v=.int (a+i*c) t) acc n->Q acc.toList { s with heap:=h',toks:=tk }):
  wpAny (model prog w) A (collect (.ref r)) Q E s:=by
 unfold collect
 refine wpAny_bind
  (wpAny_runValue (codeAny_builtin F.entry_proto_collect ?_))
 rw [Around.under_plainId
  F.plain_proto_collect _]
 show wpAny _ A.in1 (newList [] >>= fun l=>again (.builtin "list.__iadd__" ⟨[l,.ref r],[]⟩)) _ _ s
 refine wpAny_bind (wpAny_newObj_type ?_)
 refine wpAny_pure
  ⟨plainId_quiet F.plain_list_iadd _,codeAny_builtin F.entry_list_iadd ?_⟩
 rw [Around.under_plainId
  F.plain_list_iadd _]
 show wpAny _ A.in1 (Builtin.List.listExtendWith (.ref s.heap.objs.size) (.ref r) (.ref s.heap.objs.size)) _ _ _
 have hS:(s.heap.push { cls:=.type "list",data:=.seq ([]:List Value).toArray }).get? s.heap.objs.size=some { cls:=.type "list",data:=.seq #[] }:=Heap.get?_push_size _ rfl
 have fin:∀ s',(∃ acc c',s'.heap.get? s.heap.objs.size=some { cls:=.type "list",dict:=none,data:=.seq acc c',slots:=#[] } /\ Q acc.toList s')->
   wpAny (model prog w) A (load s.heap.objs.size >>= fun o=>match o.data with
    | .seq xs _=>pure xs.toList
    | _=>unsupported "internal:collect") Q E s':=fun s' ⟨acc,c',e,q⟩=>wpAny_bind (wpAny_load e (wpAny_pure q))
 refine wpAny_mono (wpAny_extend_range (s:={ s with heap:=s.heap.push { cls:=.type "list",data:=.seq ([]:List Value).toArray } })
  (R:=fun res s'=>res=.ok (.ret (.ref s.heap.objs.size)) /\ ∃ acc c',s'.heap.get? s.heap.objs.size=some { cls:=.type "list",dict:=none,data:=.seq acc c',slots:=#[] } /\ Q acc.toList s')
  hh (Heap.get?_push_of_some _ hr) hsmall hn hlen s.heap.objs.size (.ref s.heap.objs.size) 0 hS fun h' tk acc' c' hk hS' hacc=>⟨rfl,acc',c',hS',?_⟩) (fun z s' hz=>?_) fun e s' he=>?_
 ·exact hQ h' tk acc' (fun b o e=>hk b o (Nat.ne_of_lt (Heap.lt_size e)) (Heap.get?_push_of_some _ e)) hacc
 ·cases z with
  | done f=>
   obtain ⟨hr',q⟩:=hz
   cases hr'
   exact fin s' q
  | again c'=>
   refine ⟨hz.1,codeAny_mono hz.2 fun res s2 q=>?_⟩
   obtain ⟨rfl,q⟩:=q
   exact fin s2 q
 ·cases he.1
end
end PyProof.Rows
namespace L2
open PySem PySem.Spec PyProof.Rows
def SortTo(lim:Nat):Prop:=∀ {prog:Program} {w:World} {A:Around} {E:Value->Shared->Prop} {s:Shared} {a₀:Array Keyed} {st:SortSt} {Q:Unit->SortSt->Prop},IntKeys a₀->SBase a₀ st->2 <= a₀.size->a₀.size <= lim->
 (∀ st',(arrOf st').Perm a₀->failedOf st'=none->SortedTo (arrOf st') a₀.size->Q () st')->wpS (model prog w) A E s sortRuns' Q st
section
variable {X:Cx} {pins:List (Addr × Obj)} {σ:St} {H:Hp} {s:Shared} {A:Around} {E:Value->Shared->Prop}
theorem Inv.pin_add{a:Addr}{o:Obj}(I:Inv X pins σ H s)(f:FpOk X pins H a)(e:s.heap.get? a=some o)(nc:∀ v,o.data≠.cell v):Inv X ((a,o) :: pins) σ H s:=I.pins_of fun p hp=>by
 rcases List.mem_cons.mp hp with rfl | hp
 ·exact ⟨e,f.1,f.2.1,f.2.2.1,nc⟩
 ·exact I.pin p (List.mem_append_right _ hp)
theorem Inv.pin_drop{p:Addr × Obj}(I:Inv X (p :: pins) σ H s):Inv X pins σ H s:=I.pins_of fun q hq=>I.pin q (List.mem_append_right _ (List.mem_cons_of_mem _ hq))
theorem Inv.pin_get{p:Addr × Obj}(I:Inv X pins σ H s)(h:p∈pins):s.heap.get? p.1=some p.2:=(I.pin p (List.mem_append_right _ h)).1
theorem Inv.turn1{t':Nat}{a:Addr}{h':Heap}(I:Inv X pins σ H s)(f:FpOk X pins H a)(k:∀ b o,b≠a->s.heap.get? b=some o->h'.get? b=some o):Inv X pins σ H { s with heap:=h',toks:=t' }:=
 I.turned k f.1 f.2.1 f.2.2.2.1 f.2.2.2.2.1 f.2.2.2.2.2
theorem key_sort{a:Addr}{f:Value}{vs:List Value}{kz:List Int}{n:Nat}{P:PySem.Fin->Shared->Prop}
  (I:Inv X pins σ H s) (ho:s.heap.get? a=some (seqObj "list" vs.toArray n)) (fa:FpOk X pins H a) (hlen:kz.length=vs.length) {lim:Nat} (srt:SortTo lim) (hlim:lim <= 100000) (hz:vs.length <= lim)
  (turn:∀ (i:Nat) (v:Value) (k:Int),vs[i]?=some v->kz[i]?=some k->∀ (pins':List (Addr × Obj)) (s':Shared),(∀ p∈pins,p∈pins')->Inv X pins' σ H s'->
   wpAny (model X.prog X.w) A (call f [v]) (fun u s''=>(∃ t,u=.int k t) /\ Inv X pins' σ H s'') (fun _ _=>False) s')
  (h:∀ s' out e,Inv X pins σ H s'->s'.heap.get? a=some (seqObj "list" out e)->KskOut false kz vs out.toList->P (.done (.ret .none)) s'):
  wpAny (model X.prog X.w) A (ksk_tree a f false) P E s:=by
 have hsl:∀ m,m <= vs.length->m <= sizeLine:=fun m hm=>by rw [sizeLine_eq];omega
 unfold ksk_tree
 refine wpAny_bind
  (listItems_at ho rfl ?_)
 refine wpAny_bind
  (listUpdate_at ho rfl ?_ (by rw [List.size_toArray];exact hsl _ (Nat.le_refl _)) (Nat.zero_le _))
 obtain ⟨e1,ho1⟩:∃ e1,(s.heap.update a (Obj.mapSeq fun _=>(#[]:Array Value))).get? a=
   some (seqObj "list" #[] e1):=⟨_,get?_update_seq ho _⟩
 have s1:=Heap.SameBut.update s.heap a (Obj.mapSeq fun _=>(#[]:Array Value))
 have I1:Inv X pins σ H { s with heap:=s.heap.update a (Obj.mapSeq fun _=>(#[]:Array Value)) }:=
  I.turn1 (t':=s.toks) fa fun b o hb e=>(s1.2 b hb).trans e
 refine wpAny_bind
  (seqEpoch_at ho1 rfl ?_)
 refine wpAny_bind
  (wpAny_newTuple ?_ (by show vs.length <= _;exact hsl _ (Nat.le_refl _)))
 refine wpAny_bind
  (wpAny_newList ?_ (Nat.zero_le _))
 refine wpAny_holding ?_
 dsimp only
 generalize hh1:s.heap.update a (Obj.mapSeq fun _=>(#[]:Array Value))=h1 at*
 have I2:Inv X pins σ H { s with heap:=h1.push (seqObj "tuple" vs.toArray 0) }:=I1.kept (t':=s.toks) fun b o e=>Heap.get?_push_of_some _ e
 have I3:Inv X pins σ H { s with heap:=(h1.push (seqObj "tuple" vs.toArray 0)).push (seqObj "list" #[] 0) }:=I2.kept (t':=s.toks) fun b o e=>Heap.get?_push_of_some _ e
 have fk:FpOk X pins H (h1.push (seqObj "tuple" vs.toArray 0)).objs.size:=I2.fpOk (Nat.le_refl _) (I2.hok.fresh (Nat.le_refl _))
 have ha3:((h1.push (seqObj "tuple" vs.toArray 0)).push (seqObj "list" #[] 0)).get? a=some (seqObj "list" #[] e1):=Heap.get?_push_of_some _ (Heap.get?_push_of_some _ ho1)
 have hk3:((h1.push (seqObj "tuple" vs.toArray 0)).push (seqObj "list" #[] 0)).get? (h1.push (seqObj "tuple" vs.toArray 0)).objs.size=some (seqObj "list" #[] 0):=Heap.get?_push_size _ rfl
 have hak:a≠(h1.push (seqObj "tuple" vs.toArray 0)).objs.size:=fun z=>by
  have:=Heap.lt_size (Heap.get?_push_of_some (seqObj "tuple" vs.toArray 0) ho1)
  rw [z] at this
  exact Nat.lt_irrefl _ this
 generalize hkS:(h1.push (seqObj "tuple" vs.toArray 0)).objs.size=kS at*
 have both:∀ {s':Shared} {oK:Obj},Inv X pins σ H s'->s'.heap.get? a=some (seqObj "list" #[] e1)->s'.heap.get? kS=some oK->(∀ v,oK.data≠.cell v)->Inv X ((a,seqObj "list" #[] e1) :: (kS,oK) :: pins) σ H s':=fun {s' oK} J ea ek nc=>by
  refine (J.pin_add fk ek nc).pin_add ⟨fa.1,fa.2.1,fa.2.2.1,fa.2.2.2.1,fa.2.2.2.2.1,fun p hp=>?_⟩ ea (fun v z=>by cases z)
  rcases List.mem_append.mp hp with q | q
  ·exact fa.2.2.2.2.2 p (List.mem_append_left _ q)
  ·rcases List.mem_cons.mp q with rfl | q
   ·exact fun z=>hak z.symm
   ·exact fa.2.2.2.2.2 p (List.mem_append_right _ q)
 unfold ksk_rest
 refine wpAny_bind (wpAny_rule ?_)
 rw [<- Array.forIn_toList]
 simp only [List.toList_toArray]
 refine wpAny_bind (ksk_fold (fun i s'=>∃ kA e,Inv X ((a,seqObj "list" #[] e1) :: (kS,seqObj "list" kA e) :: pins) σ H s' /\ IntsAre kA.toList (kz.take i)) vs 0 _
  ⟨#[],0,both I3 ha3 hk3 (fun v z=>by cases z),by simpa using IntsAre.nil⟩ ?step ?done)
 case step=>
  rintro j x s' hx ⟨kA,e,J,hk⟩
  simp only [Nat.zero_add] at hk ⊢
  have hj:j < vs.length:=(List.getElem?_eq_some_iff.mp hx).1
  obtain ⟨k,hkj⟩:∃ k,kz[j]?=some k:=⟨_,List.getElem?_eq_getElem (by omega)⟩
  have hzA:kA.size <= vs.length:=by
   have z:=hk.length
   rw [Array.length_toList,List.length_take] at z
   omega
  refine wpAny_bind (wpAny_attempt (wpAny_mono (turn j x k hx hkj _ s' (fun p hp=>List.mem_cons_of_mem _ (List.mem_cons_of_mem _ hp)) J) (fun v s2 hq=>?_) fun _ _ hF=>hF.elim))
  obtain ⟨⟨t2,rfl⟩,J2⟩:=hq
  dsimp only
  have ea:=J2.pin_get (p:=(a,seqObj "list" #[] e1)) List.mem_cons_self
  have ek:=J2.pin_get (p:=(kS,seqObj "list" kA e)) (List.mem_cons_of_mem _ List.mem_cons_self)
  dsimp only at ea ek
  have sb:=Heap.SameBut.update s2.heap kS (Obj.mapSeq (·.push (.int k t2)))
  obtain ⟨c2,hc2⟩:∃ c2,(s2.heap.update kS (Obj.mapSeq (·.push (.int k t2)))).get? kS=some (seqObj "list" (kA.push (.int k t2)) c2):=
   ⟨_,get?_update_seq ek _⟩
  have et:kz.take (j+1)=kz.take j++[k]:=by rw [List.take_add_one,hkj];rfl
  refine wpAny_bind
   (listUpdate_at ek rfl ?_ (hsl _ hzA) (by rw [Array.size_push];exact Nat.succ_le_succ (hsl _ hzA)))
  refine wpAny_pure ⟨rfl,kA.push (.int k t2),c2,?_,?_⟩
  ·exact both (J2.pin_drop.pin_drop.turn1 (t':=s2.toks) fk fun b o hb z=>(sb.2 b hb).trans z) ((sb.2 a hak).trans ea) hc2 (fun v z=>by cases z)
  ·rw [et,Array.toList_push]
   exact ksk_snoc hk
 case done=>
  rintro s' ⟨kA,e,J,hk⟩
  have hk':IntsAre kA.toList kz:=by
   rw [Nat.zero_add,List.take_of_length_le (by omega)] at hk
   exact hk
  have hszk:kA.size=vs.length:=by
   have z:=hk'.length
   rw [Array.length_toList] at z
   omega
  have ea:=J.pin_get (p:=(a,seqObj "list" #[] e1)) List.mem_cons_self
  have ek:=J.pin_get (p:=(kS,seqObj "list" kA e)) (List.mem_cons_of_mem _ List.mem_cons_self)
  dsimp only at ea ek ⊢
  have J0:=J.pin_drop.pin_drop
  refine wpAny_bind
   (listItems_at ek rfl ?_)
  have hzs:(kA.zip vs.toArray).size=vs.length:=by rw [Array.size_zip,hszk,List.size_toArray,Nat.min_self]
  have tail:∀ st:SortSt,(arrOf st).Perm (kA.zip vs.toArray)->SortedTo (arrOf st) (arrOf st).size->failedOf st=none->wpAny (model X.prog X.w) A (ksk_tail a false e1 (.ref kS) st) P E s':=by
   intro st hp hs hfl
   have hs2:(arrOf st).size=vs.length:=by rw [hp.size_eq,hzs]
   have sb:=Heap.SameBut.update s'.heap kS (Obj.mapSeq fun _=>(#[]:Array Value))
   have ea1:(s'.heap.update kS (Obj.mapSeq fun _=>(#[]:Array Value))).get? a=some (seqObj "list" #[] e1):=(sb.2 a hak).trans ea
   have sb2:=Heap.SameBut.update (s'.heap.update kS (Obj.mapSeq fun _=>(#[]:Array Value))) a (Obj.mapSeq fun _=>(arrOf st).map (·.2))
   obtain ⟨c2,hc2⟩:∃ c2,((s'.heap.update kS (Obj.mapSeq fun _=>(#[]:Array Value))).update a (Obj.mapSeq fun _=>(arrOf st).map (·.2))).get? a=some (seqObj "list" ((arrOf st).map (·.2)) c2):=
    ⟨_,get?_update_seq ea1 _⟩
   unfold ksk_tail
   dsimp only
   refine wpAny_bind
    (listUpdate_at ek rfl ?_ (hsl _ (Nat.le_of_eq hszk)) (Nat.zero_le _))
   refine wpAny_bind (wpAny_letGo ?_)
   refine wpAny_bind
    (seqEpoch_at ea1 rfl ?_)
   simp only [Bool.false_eq_true,if_false]
   refine wpAny_bind
    (listUpdate_at ea1 rfl ?_ (Nat.zero_le _) (by rw [Array.size_map,hs2];exact Nat.le_succ_of_le (hsl _ (Nat.le_refl _))))
   rw [hfl]
   simp only [bne_self_eq_false,Bool.false_eq_true,if_false]
   refine wpAny_pure (h _ _ c2 ?_ hc2 ?_)
   ·exact (J0.turn1 (t':=s'.toks) fk fun b o hb z=>(sb.2 b hb).trans z).turn1 (t':=s'.toks) fa fun b o hb z=>(sb2.2 b hb).trans z
   ·have z:=ksk_out (b:=false) hk' hp hs
    simpa using z
  unfold ksk_end
  simp only [Bool.false_eq_true,if_false]
  by_cases h2:vs.toArray.size < 2
  ·rw [if_pos h2,if_pos h2]
   refine wpAny_bind (wpAny_pure ?_)
   rw [StateT.run_pure]
   refine wpAny_bind (wpAny_pure ?_)
   dsimp only
   refine tail _ (Array.Perm.refl _) ?_ rfl
   intro i j hij hj
   have hj2:j < (kA.zip vs.toArray).size:=hj
   rw [hzs] at hj2
   rw [List.size_toArray] at h2
   have:i=j:=by omega
   subst this
   exact Int.le_refl _
  ·rw [if_neg h2,if_neg h2]
   rw [List.size_toArray] at h2
   rw [ksk_kind hk' (by rw [hszk];omega)]
   refine wpAny_bind (wpAny_pure ?_)
   refine wpAny_bind
    (wpAny_mono (srt (a₀:=kA.zip vs.toArray) (st:=SortSt.mk' oneType' (kA.zip vs.toArray) #[] 7 none)
     (Q:=fun _ z=>(arrOf z).Perm (kA.zip vs.toArray) /\ failedOf z=none /\ SortedTo (arrOf z) (kA.zip vs.toArray).size)
     (ksk_intKeys hk') ⟨Array.Perm.refl _,rfl,rfl,rfl⟩ (by rw [hzs];omega) (by rw [hzs];exact hz) fun z b1 b2 b3=>⟨b1,b2,b3⟩) ?_ fun _ _ e=>e)
   rintro ⟨⟨⟩,z⟩ s2 ⟨rfl,b1,b2,b3⟩
   dsimp only
   exact tail z b1 (by rw [b1.size_eq];exact b3) b2
theorem lam_make{P c:Addr}{params:Arguments}{body:Expr}{scope:Scope}{pos:Pos}{N':List Str}{cap:List (Option Nat)}{Q:Value->Shared->Prop}(I:Inv X pins σ H s)
  (hT:H P=some (.tbl pos (X.env.qual ++ "<lambda>"))) (hcode:X.env.code=.ref c) (C:PySem.W.CodeHd X.base c P) (S:CSc X scope N' cap) (hdef:defaultsOf params X.env=([],[]))
  (h:∀ (f c':Addr) (oc:Obj) (vs:Array Value) (t:Tok) (ctv:Value) (s':Shared) (H':Hp),
   Inv X ((f,kla_obj "<lambda>" (X.env.qual ++ "<lambda>") params body scope (compCl X.env scope.names []) ((X.mg "__name__").getD .none) c' ctv) :: pins) σ H' s'->
   (H'=H \/ ∃ b,H b=none /\ H'=upd H b (.frz oc (.own P)))->H' c'=some (.frz oc (.own P))->oc.data=.fields vs->vs[1]?=some (.str (X.env.qual ++ "<lambda>") t)->Q (.ref f) s'):
  wpAny (model X.prog X.w) A (eval (.Lambda params body scope pos) X.env) Q E s:=by
 obtain ⟨ps,hP,tr,hc⟩:=(show ObjOk X.prog X.w H s.heap P (.tbl pos (X.env.qual ++ "<lambda>")) from I.hok P _ hT)
 obtain ⟨bm,ob,m1,m2,m3,m4,m5,m6⟩:=I.mod.bm
 have hgl:s.heap.Ns mainGlobals X.mg:=I.mod.glob.keeps I.bk
 have hbmG:bm≠mainGlobals:=fun q=>by
  obtain ⟨o,es,ep,e,hd,_⟩:=I.mod.glob
  rw [q,e] at m3;cases m3;rw [hd] at m6;cases m6
 have hbmP:bm≠P:=fun q=>by
  have e:=I.bk _ _ m3
  rw [q,hP] at e;cases e;cases m4
 have hgP:mainGlobals≠P:=fun q=>by
  obtain ⟨o,es,ep,e,hd,_⟩:=hgl
  rw [q,hP] at e;cases e;cases hd
 have hB:s.heap.BuiltinsAt X.mg P:=⟨bm,ob,m1,m2,hbmG,hbmP,I.bk _ _ m3,m4,m5,m6⟩
 have hcl:closureFor scope X.env=pure (compCl X.env scope.names []):=closure_eq (I.cellOf S)
 refine PySem.W.kla_eval hdef ?_
 cases hca:codeAmong pos ps.toList with
 | none=>
  refine PySem.W.kla_makeFunction hcl I.ok.glob hgl hcode (C.keeps I.bk) hP tr hca hgP hB fun c' ctv h' tk hx hge hlt hrec htb=>?_
  obtain ⟨c2,oc,vs,t,ec,hoc,hdc,hq⟩:=hrec
  cases ec
  have hn:H c'=none:=I.hok.fresh hge
  have hPc:P≠c':=ne_of_none hT hn
  have hsz:s.heap.objs.size <= h'.objs.size:=Nat.le_trans hge (Nat.le_of_lt hlt)
  have lt:∀ b o,s.heap.get? b=some o->b≠c':=fun b o e=>Nat.ne_of_lt (Nat.lt_of_lt_of_le (Heap.lt_size e) hge)
  have old:∀ b o,b≠P->s.heap.get? b=some o->(h'.push (kla_obj "<lambda>" (X.env.qual ++ "<lambda>") params body scope (compCl X.env scope.names []) ((X.mg "__name__").getD .none) c' ctv)).get? b=some o:=
   fun b o hb e=>Heap.get?_push_of_some _ (hx b o hb e)
  have nP:∀ b,H b=none->b≠P:=fun b n z=>by rw [z,hT] at n;cases n
  have hun:Un X.fs [] H (upd H c' (.frz oc (.own P))) s.heap (h'.push (kla_obj "<lambda>" (X.env.qual ++ "<lambda>") params body scope (compCl X.env scope.names []) ((X.mg "__name__").getD .none) c' ctv)):=by
   refine ⟨fun b o e n _ _=>old b o (nP b n) e,fun b o e n _ _=>⟨o.slots,old b o (nP b n) e⟩,fun b o e n _=>by rw [upd_ne (lt b o e)];exact n,fun b o e _=>?_,
    fun b xs q=>by rw [upd_ne (ne_of_none q hn)];exact q,fun b o u q=>by rw [upd_ne (ne_of_none q hn)];exact q,fun b pl y q=>by rw [upd_ne (ne_of_none q hn)];exact q⟩
   by_cases hb:b=P
   ·exact ⟨_,by rw [hb];exact Heap.get?_push_of_some _ htb⟩
   ·exact ⟨o,old b o hb e⟩
  have hok:HOk X.prog X.w (upd H c' (.frz oc (.own P))) (h'.push (kla_obj "<lambda>" (X.env.qual ++ "<lambda>") params body scope (compCl X.env scope.names []) ((X.mg "__name__").getD .none) c' ctv)):=fun b u e=>by
   by_cases hbc:b=c'
   ·subst hbc
    rw [upd_same] at e
    cases e
    exact ⟨Heap.get?_push_of_some _ hoc,_,Heap.get?_push_of_some _ hoc⟩
   ·rw [upd_ne hbc] at e
    by_cases hb:b=P
    ·subst hb
     rw [hT] at e
     cases e
     have eL:(ps++#[rawInt pos.line,rawInt pos.col,Value.ref c']).toList=ps.toList++[rawInt pos.line,rawInt pos.col,Value.ref c']:=by simp
     refine ⟨_,Heap.get?_push_of_some _ htb,by rw [eL];exact TriplesOk_snoc _ _ _ _ tr,fun cv z=>?_⟩
     rw [eL,codeAmong_snoc _ tr hca] at z
     cases z
     exact ⟨c',oc,vs,t,rfl,upd_same,hdc,hq⟩
    ·refine (I.hok b u e).stay (fun d v hd q=>old d v ?_ q) (fun d q=>by rw [upd_ne (ne_of_none q hn)];exact q) (fun d xs q=>by rw [upd_ne (ne_of_none q hn)];exact q) fun d o y q=>by rw [upd_ne (ne_of_none q hn)];exact q
     rcases hd with rfl | hd
     ·exact hb
     ·intro z;rw [z,hT] at hd;cases hd
  have J:Inv X pins σ (upd H c' (.frz oc (.own P))) { s with heap:=h'.push (kla_obj "<lambda>" (X.env.qual ++ "<lambda>") params body scope (compCl X.env scope.names []) ((X.mg "__name__").getD .none) c' ctv),toks:=tk }:=I.un hun hok
  refine h h'.objs.size c' oc vs t ctv _ _ (J.pin_add ?_ (Heap.get?_push_size _ rfl) (fun v z=>by cases z)) (.inr ⟨c',hn,rfl⟩) upd_same hdc hq
  exact I.fpOk hsz (by rw [upd_ne (Nat.ne_of_gt hlt)];exact I.hok.fresh hsz)
 | some cv=>
  obtain ⟨c',oc,vs,t,rfl,e2,hdc,hq⟩:=hc cv hca
  refine PySem.W.kla_makeFunctionHit hcl I.ok.glob hgl hcode (C.keeps I.bk) hP tr hca hB fun ctv h' tk hk hsz=>?_
  have J:Inv X pins σ H { s with heap:=h'.push (kla_obj "<lambda>" (X.env.qual ++ "<lambda>") params body scope (compCl X.env scope.names []) ((X.mg "__name__").getD .none) c' ctv),toks:=tk }:=
   I.kept fun b o e=>Heap.get?_push_of_some _ (hk b o e)
  refine h h'.objs.size c' oc vs t ctv _ H (J.pin_add ?_ (Heap.get?_push_size _ rfl) (fun v z=>by cases z)) (.inl rfl) e2 hdc hq
  exact I.fpOk hsz (I.hok.fresh hsz)
def lamCx(X:Cx)(A:Around)(qual:Str)(scope:Scope)(N':List Str)(f:Addr)(cd:Value)(s:Shared)(H:Hp):Cx where
 prog:=X.prog
 w:=X.w
 K:=X.K
 mg:=X.mg
 base:=X.base
 A:=A.deeper (envX qual scope s.heap.objs.size f cd (compCl X.env scope.names []))
 N:=N'
 s₀:=s
 H₀:=H
 env:=envX qual scope s.heap.objs.size f cd (compCl X.env scope.names [])
 outer:=X.stack
 stack:=envX qual scope s.heap.objs.size f cd (compCl X.env scope.names []) :: X.stack
 ex:=[]
 calm:=true
 fn:=fun _=>false
 pn:=[]
 xe:=fun _ _=>False
theorem lam_call{f c':Addr}{oc:Obj}{vs:Array Value}{t:Tok}{ctv pm:Value}{qual x y:Str}{params:Arguments}{body:Expr}{scope:Scope}{j:Nat}{v:Value}{a b:V}{te:TE}{Qv:VK}{P:Addr}
  (I:Inv X pins σ H s) (hA:A.frames=some X.stack) (hh:A.handled=none) (hd:A.depth < recursionLimit)
  (hf:(f,kla_obj "<lambda>" qual params body scope (compCl X.env scope.names []) pm c' ctv)∈pins) (hc:H c'=some (.frz oc (.own P))) (hdc:oc.data=.fields vs) (hq:vs[1]?=some (.str qual t))
  (S:CSc X scope [x,y] [none,some j]) (hxl:scope.names.lookup x=some .local) (hco:scope.isCoroutine=false) (hgen:scope.isGenerator=false)
  (hbind:∀ cdv,bindArgs (PySem.W.kla_fn "<lambda>" qual params body scope (compCl X.env scope.names []) pm cdv ctv) ⟨[v],[]⟩=pure [(x,v)])
  (hσ:σ[j]?=some (some b)) (rv:RelV a v) (hb:∀ s',PE (lamCx X A qual scope [x,y] f (.ref c') s' H) body te) (q:te [some a,some b] H Qv):
  wpAny (model X.prog X.w) A (call (.ref f) [v]) (fun u s'=>∃ z H',RelV z u /\ Qv z H' /\ Inv X pins σ H' s') (fun _ _=>False) s:=by
 have hlim:=I.nolimit
 have ho:=I.pin_get hf
 obtain ⟨hoc,_⟩:=(show ObjOk X.prog X.w H s.heap c' (.frz oc (.own P)) from I.hok c' _ hc)
 refine wpAny_call (PySem.W.kla_callFunE hd ho rfl hco hgen rfl ⟨c',oc,vs,t,rfl,hoc,hdc,hq⟩ ?_)
 rw [hbind]
 refine wpAny_pure (wpAny_newFunctionEnv S.nocell (fun z hz=>by rw [List.mem_singleton.mp hz];exact hxl) (fun h₁ hns hsb=>?_) S.kind)
 have hk₁:∀ b o,s.heap.get? b=some o->h₁.get? b=some o:=fun b o e=>hsb.extBut b o (Nat.ne_of_lt (Heap.lt_size e)) (Heap.get?_push_of_some _ e)
 refine ⟨hlim.keeps hk₁,?_⟩
 show codeAny _ _ (.expr body (envX qual scope s.heap.objs.size f (.ref c') (compCl X.env scope.names []))) _ _
 have J:Inv (lamCx X A qual scope [x,y] f (.ref c') s H) [] [some a,some b] H { s with heap:=h₁,toks:=s.toks+1 }:=by
  refine ⟨⟨I.ok.mod,S.kind,rfl,rfl,Nat.le_refl _,fun z z' d h1 h2=>?_,fun z hz=>?_,fun z d hz=>(by cases hz),fun _=>hh,Around.frames_deeper hA,.inr ⟨rfl,rfl⟩,fun d hd'=>absurd (show d∈([]:List Addr) from hd') (by simp),I.bs,Nat.le_trans I.ok.bsz I.sz,
    fun d _ _=>(by show d∉([]:List Addr);simp),fun d hd'=>absurd (show d∈([]:List Addr) from hd') (by simp),I.stack,I.stkFree⟩,
   rfl,I.bare,Un.kept hk₁,⟨_,hns,fun i z u e1 e2 e3=>?_⟩,fun z d e=>?_,I.hok.fresh (Nat.le_refl _),fun z d e=>I.freeC z d (I.clLook S e),fun p hp=>absurd (show p∈([]:List (Addr × Obj)) from hp) (by simp),I.hok.kept hk₁,rfl⟩
  ·exact I.ok.inj z z' d (I.clLook S h1) (I.clLook S h2)
  ·have hz':scope.names.lookup z=some .cell \/ scope.names.lookup z=some .free:=hz
   rcases hz' with hz' | hz'
   ·exact absurd rfl (S.nocell _ (PySem.mem_of_lookup hz'))
   ·exact compCl_has _ _ z (PySem.mem_of_lookup hz')
  ·match i,e1,e2 with
   | 0,e1,e2=>
    cases e1
    cases e2
    exact ⟨v,rv,.inl ⟨hxl,by simp⟩⟩
   | 1,e1,e2=>
    cases e1
    cases e2
    obtain ⟨a1,_,a3⟩:=S.cap 1 (List.mem_range.mpr (by show 1 < 2;omega)) j rfl
    have a1':X.N[j]?=some y:=a1.symm
    have a3':scope.names.lookup y=some .free:=a3
    have hk':X.env.kindOf y=some .cell \/ X.env.kindOf y=some .free:=S.free _ (PySem.mem_of_lookup a3') rfl
    obtain ⟨m0,hn0,hl⟩:=I.loc
    obtain ⟨u',ru,lk⟩:=hl j y _ a1' hσ (hk'.elim (fun z=>.inr (.inl z)) fun z=>.inr (.inr z))
    refine ⟨u',ru,?_⟩
    rcases lk with ⟨z,_⟩ | ⟨_,d,ec,hcell⟩
    ·rcases hk' with w' | w'
     ·rw [z] at w';cases w'
     ·rw [z] at w';cases w'
    ·obtain ⟨d',ec'⟩:=compCl_has (env:=X.env) scope.names [] y (PySem.mem_of_lookup a3')
     have:d'=d:=Option.some.inj ((I.clLook S ec').symm.trans ec)
     subst this
     exact .inr ⟨.inr a3',d',ec',hcell.keeps hk₁⟩
  ·obtain ⟨u',z'⟩:=I.cell z d (I.clLook S e)
   exact ⟨u',z'.keeps hk₁⟩
 refine PySem.W.kla_codeExpr (wpAny_mono (hb s [] _ _ H Qv J q) (fun u s' hu=>?_) fun _ _ z=>False.elim z)
 obtain ⟨z,H',J',rz,qz⟩:=hu
 exact ⟨z,H',rz,qz,I.call' (ch:=[]) J'.os J'.base J'.hok J'.bare fun d hd'=>absurd hd' (by simp)⟩
end
end L2
namespace L2
open PySem PySem.Spec PyProof.Rows
abbrev Tabs:=Addr->Option (Pos × Str)
def tabsOf(K:PySem.W.Frag)(L:List (Str × Pos × Str)):Tabs:=fun b=>L.findSome? fun e=>match tabIn K e.1 with
 | some p=>if b=p.2 then some e.2 else none
 | none=>none
theorem tabs_one{K:PySem.W.Frag}{f:Str}{pl:Pos}{q:Str}{c P:Addr}(h:tabIn K f=some (c,P)):tabsOf K [(f,pl,q)] P=some (pl,q):=by
 unfold tabsOf
 simp [h]
theorem tabs_mem{K:PySem.W.Frag}{L:List (Str × Pos × Str)}{b:Addr}{p:Pos × Str}(h:tabsOf K L b=some p):∃ e∈L,∃ c,tabIn K e.1=some (c,b):=by
 unfold tabsOf at h
 obtain ⟨e,he,q⟩:=List.exists_of_findSome?_eq_some h
 refine ⟨e,he,?_⟩
 cases z:tabIn K e.1 with
 | none=>rw [z] at q;cases q
 | some r=>
  rw [z] at q
  dsimp only at q
  split at q
  ·rename_i hb
   exact ⟨r.1,by rw [hb]⟩
  ·cases q
def TabsIn(K:PySem.W.Frag)(L:List (Str × Pos × Str))(H:Hp):Prop:=∀ b p,tabsOf K L b=some p->H b=some (.tbl p.1 p.2)
theorem law_callT{P:Program}{w:World}{K:PySem.W.Frag}{mg mb:Str->Option Value}{CX:CXT}{k:Nat}{fa a:Addr}{fd:FuncData}{x:Str}{sp:Sp}{s₁:Shared}{vs:List Value}{ns:List Int}(τ:Tabs)
  (KX:K.In s₁.heap) (hns:s₁.heap.Ns mainGlobals mg) (hb:s₁.heap.Ns builtinsNs mb) (hbb:∀ x:Str,x ≠ "__name__"->mb x=bootBuiltins x) (hlim:s₁.heap.NoLimit) (hg:s₁.gens=#[])
  (hbm:∃ bm ob,mg "__builtins__"=some (.ref bm) /\ bm≠builtinsNs /\ s₁.heap.get? bm=some ob /\ ob.cls=.type "module" /\ ob.dict=some builtinsNs /\ ob.data=.plain)
  (hτ:∀ b p,τ b=some p->∃ c,PySem.W.CodeHd s₁.heap c b /\ s₁.heap.get? b=some (PySem.W.tabObj #[])) (hτK:∀ b p,τ b=some p->K.lookup b=none)
  (ha:s₁.heap.get? a=some { cls:=.type "list",data:=.seq vs.toArray }) (hi:IntsAre vs ns) (hl:ns.length <= sizeLine) (hr:Room k callerA)
  (F:∀ base:Heap,K.In base->base.Ns mainGlobals mg->FnOk P w K mg base CX k fa fd [x] sp) (hbind:∀ (s:Shared) (u:Value),BindsTo s fd ⟨[u],[]⟩ [(x,u)])
  (hsp:∀ H:Hp,(∀ b p,τ b=some p->H b=some (.tbl p.1 p.2))->SqL K H a (ns.map V.int)->sp [.ref a] H (fun v _=>v=.bl true) fun _ _ _=>False)
  (hCX:∀ H e s',CX [] H s₁ (fun _ _ _=>False) e s'->False):
  codeAny (model P w) callerA (.call (.ref fa) ⟨[.ref a],[]⟩) (fun r s'=>r=.ok (.ret (.bool true)) /\ OldK s₁.heap s'.heap /\ s'.os=s₁.os /\ AllBare s'.gens) s₁:=by
 have rv:=vals_ints hi
 have lenV:=hi.length
 have hta:∀ p,τ a≠some p:=fun p z=>by
  obtain ⟨c,_,e⟩:=hτ a p z
  rw [ha] at e;cases e
 have core:∀ H:Hp,(∀ b p,τ b=some p->H b=some (.tbl p.1 p.2))->SqL K H a (ns.map V.int)->HOk P w H s₁.heap->
   (∀ b u,H b=some u->(b=a /\ (∃ o xs,u=.frz o (.lst xs)) /\ K.lookup a=none) \/ ∃ p,τ b=some p /\ u=.tbl p.1 p.2)->
   codeAny (model P w) callerA (.call (.ref fa) ⟨[.ref a],[]⟩) (fun r s'=>r=.ok (.ret (.bool true)) /\ OldK s₁.heap s'.heap /\ s'.os=s₁.os /\ AllBare s'.gens) s₁:=by
  intro H hT hS hok hA
  have obj_of:∀ {b:Addr} {o:Obj} {u:HO},s₁.heap.get? b=some o->H b=some u->(∃ xs n,o.data=.seq xs n) \/ ∃ ps,o.data=.fields ps /\ o.cls=.none:=fun {b o u} e q=>by
   rcases hA b u q with ⟨rfl,_⟩ | ⟨p,hp,_⟩
   ·rw [ha] at e;cases e;exact .inl ⟨_,_,rfl⟩
   ·obtain ⟨c,_,e'⟩:=hτ b p hp
    rw [e'] at e;cases e;exact .inr ⟨_,rfl,rfl⟩
  have base_of:∀ {b:Addr} {o:Obj},s₁.heap.get? b=some o->H b=none->(hidT s₁.heap H).get? b=some o:=fun e n=>hidT_get e n
  have noA:∀ {b:Addr} {o:Obj} {es:Array DictEntry} {ep:Nat},s₁.heap.get? b=some o->o.data=.dict es ep->H b=none:=fun {b o es ep} e d=>by
   cases q:H b with
   | none=>rfl
   | some u=>
    rcases obj_of e q with ⟨xs,n,z⟩ | ⟨ps,z,_⟩
    ·rw [d] at z;cases z
    ·rw [d] at z;cases z
  have nsK:∀ {b:Addr} {m:Str->Option Value},s₁.heap.Ns b m->(hidT s₁.heap H).Ns b m:=fun {b m} ⟨o,es,ep,e,d,r⟩=>⟨o,es,ep,base_of e (noA e d),d,r⟩
  have hKb:K.In (hidT s₁.heap H):=fun b o e=>base_of (KX b o e) (by
   cases q:H b with
   | none=>rfl
   | some u=>
    rcases hA b u q with ⟨rfl,_,z⟩ | ⟨p,hp,_⟩
    ·rw [z] at e;cases e
    ·rw [hτK b p hp] at e;cases e)
  obtain ⟨bm,ob,m1,m2,m3,m4,m5,m6⟩:=hbm
  have hbmH:H bm=none:=by
   cases q:H bm with
   | none=>rfl
   | some u=>
    rcases obj_of m3 q with ⟨xs,n,z⟩ | ⟨ps,z,_⟩
    ·rw [m6] at z;cases z
    ·rw [m6] at z;cases z
  have hM:Mod K mg (hidT s₁.heap H):=⟨hKb,nsK hns,⟨mb,nsK hb,hbb⟩,let ⟨mc,h1,h2⟩:=hlim;⟨mc,nsK h1,h2⟩,⟨bm,ob,m1,m2,base_of m3 hbmH,m4,m5,m6⟩⟩
  have e0:Env0 P w K mg (hidT s₁.heap H) callerA [] s₁ H:=⟨rfl,hM,fun b o e=>of_hidT e,Nat.le_of_eq (hidT_size _ _),trivial,fun b hb=>absurd (show b∈([]:List Addr) from hb) (by simp),hok,.of_eq hg⟩
  refine codeAny_mono ((F _ hKb (nsK hns)).run callerA [] s₁ H ⟨[.ref a],[]⟩ [.ref a] [.ref a] _ _ hr e0 (hbind s₁ (.ref a)) (.cons rfl .nil) (hsp H hT hS)) fun r s' h=>?_
  cases r with
  | error e=>exact (hCX H e s' h).elim
  | ok fl=>
   cases fl with
   | next=>exact False.elim h
   | brk=>exact False.elim h
   | cont=>exact False.elim h
   | ret u=>
    obtain ⟨v,H',os,bare,un,hok',r',q⟩:=h
    have q':v=.bl true:=q
    subst q'
    obtain rfl:u=Value.bool true:=r'
    have was:∀ b o,s₁.heap.get? b=some o->asItWas s₁.heap s'.heap b o:=fun b o e=>by
     cases q:H b with
     | none=>exact .inl (un.keep b o e q (by intro z;exact absurd (show b∈([]:List Addr) from z) (by simp)) (by simp))
     | some u=>
      rcases hA b u q with ⟨rfl,⟨ob',xs,rfl⟩,_⟩ | ⟨p,hp,rfl⟩
      ·have z2:=un.frzs b ob' _ q
       obtain ⟨e1,_⟩:=hok b _ q
       obtain ⟨e2,_⟩:=hok' b _ z2
       rw [e] at e1;cases e1
       exact .inl e2
      ·obtain ⟨c,C,e'⟩:=hτ b p hp
       rw [e'] at e;cases e
       obtain ⟨ps,z,_⟩:=hok' b _ (un.tbls b _ _ q)
       refine .inr (.inl ⟨(C.tab e').isCodeTable,rfl,#[],ps,rfl,?_⟩)
       rw [z]
       simp
    exact ⟨rfl,⟨was,fun b o e=>un.there b o e (by simp)⟩,os,bare⟩
 have tok:∀ (H:Hp) b p,τ b=some p->ObjOk P w H s₁.heap b (.tbl p.1 p.2):=fun H b p hp=>by
  obtain ⟨c,_,e⟩:=hτ b p hp
  refine ⟨#[],e,trivial,fun cv z=>?_⟩
  simp [codeAmong] at z
 cases hk:K.lookup a with
 | some o=>
  have e:=KX a o hk
  rw [ha] at e
  cases e
  refine core (fun b=>(τ b).map fun p=>.tbl p.1 p.2) (fun b p hp=>by simp [hp]) (.inr ⟨_,vs.toArray,_,hk,rfl,rfl,rfl,by rw [List.size_toArray,lenV];exact hl,by simpa using rv⟩) (fun b u z=>?_) (fun b u z=>?_)
  ·obtain ⟨p,hp,rfl⟩:=Option.map_eq_some_iff.mp z
   exact tok _ b p hp
  ·obtain ⟨p,hp,rfl⟩:=Option.map_eq_some_iff.mp z
   exact .inr ⟨p,hp,rfl⟩
 | none=>
  refine core (fun b=>if b=a then some (.frz { cls:=.type "list",data:=.seq vs.toArray } (.lst (ns.map V.int))) else (τ b).map fun p=>.tbl p.1 p.2) (fun b p hp=>?_) (.inl (.inr ⟨{ cls:=.type "list",data:=.seq vs.toArray },if_pos rfl⟩)) (fun b u z=>?_) (fun b u z=>?_)
  ·have hb:b≠a:=fun q=>hta p (q ▸ hp)
   show (if b=a then _ else _)=_
   rw [if_neg hb,hp];rfl
  ·by_cases hb:b=a
   ·have z':=(if_pos hb).symm.trans z
    cases z'
    subst hb
    exact ⟨ha,by rw [List.length_map];exact hl,vs,_,rv,ha⟩
   ·have z':=(if_neg hb).symm.trans z
    obtain ⟨p,hp,rfl⟩:=Option.map_eq_some_iff.mp z'
    exact tok _ b p hp
  ·by_cases hb:b=a
   ·have z':=(if_pos hb).symm.trans z
    cases z'
    exact .inl ⟨hb,⟨_,_,rfl⟩,hk⟩
   ·have z':=(if_neg hb).symm.trans z
    obtain ⟨p,hp,rfl⟩:=Option.map_eq_some_iff.mp z'
    exact .inr ⟨p,hp,rfl⟩
theorem walk_ofT{l:PySem.W.OpenLaw}{n k:Nat}{q:Program}{loose:List Str}{XP:(Str->Option Value)->Heap->Prop}{YP:World->Heap->Prop}{d:DefRec}{K:Params->PySem.W.Frag}{CX:World->CXT}{sp:World->Sp}{x:Str}(L:List (Str × Pos × Str))
  (hn:l.most=some n) (hn2:n <= sizeLine) (hdf:d.params.defaults=[]) (hr:Room k callerA)
  (hY:∀ (w:World) (h:Heap),YP w h->(K w.params).In h)
  (hL:∀ e∈L,∃ d',(recsOf q).find? (fun r=>r.name==e.1)=some d') (hK:∀ (w:World),∀ e∈L,∀ c P,tabIn (K w.params) e.1=some (c,P)->(K w.params).lookup P=none)
  (F:∀ (w:World) (mg:Str->Option Value) (fa:Addr) (h:Heap),(K w.params).In h->h.Ns mainGlobals mg->mg d.name=some (.ref fa)->
   ∃ fd:FuncData,(∀ (s:Shared) (u:Value),BindsTo s fd ⟨[u],[]⟩ [(x,u)]) /\
    ∀ base:Heap,(K w.params).In base->base.Ns mainGlobals mg->FnOk l.prog w (K w.params) mg base (CX w) k fa fd [x] (sp w))
  (hsp:∀ (w:World) (H:Hp) (a:Addr) (ns:List Int),ns.length <= n->TabsIn (K w.params) L H->SqL (K w.params) H a (ns.map V.int)->sp w [.ref a] H (fun v _=>v=.bl true) fun _ _ _=>False)
  (hCX:∀ (w:World) (H:Hp) (s:Shared) (e:Value) (s':Shared),CX w [] H s (fun _ _ _=>False) e s'->False):
  PySem.W.WalkO q loose XP YP l.row.toRowW d [] (fun f vs=>PySem.call f vs):=by
 refine Att.attach_call hn hdf fun w s₀ s₁ mg mb fa o pm cd doc a vs ns G Y ho hd hcd hmg hobj hints hlen hg=>?_
 have KX:=hY w _ Y
 obtain ⟨fd,hb,hF⟩:=F w mg fa _ KX G.T.g hmg
 refine law_callT (tabsOf (K w.params) L) KX G.T.g G.T.b G.T.builtins G.T.nolimit hg G.T.bmain (fun b p hp=>?_) (fun b p hp=>?_) hobj hints (Nat.le_trans hlen hn2) hr hF hb (fun H hO hS=>hsp w H a ns hlen hO hS) fun H e s'=>hCX w H s₁ e s'
 ·obtain ⟨e,he,c,z⟩:=tabs_mem hp
  obtain ⟨d',hd'⟩:=hL e he
  obtain ⟨h1,h2⟩:=PySem.W.tab_of G.T KX hd' z
  exact ⟨c,h1,h2⟩
 ·obtain ⟨e,he,c,z⟩:=tabs_mem hp
  exact hK w e he c b z
end L2
namespace Sh
structure S where
 st:List (List Nat)
 gone:Nat
 mv:List Yd.Mv
def out(ord trk:List Nat)(s:S):Option S:=
 match ord[s.gone]? with
 | none=>none
 | some w=>if (s.st.getD (trk.getD w 0) []).getLast?=some w then some ⟨s.st.set (trk.getD w 0) (s.st.getD (trk.getD w 0) []).dropLast,s.gone+1,s.mv++[(false,trk.getD w 0)]⟩ else none
def inn(trk:List Nat)(s:S)(i:Nat):S:=⟨s.st.set (trk.getD i 0) (s.st.getD (trk.getD i 0) []++[i]),s.gone,s.mv++[(true,trk.getD i 0)]⟩
inductive Outs(ord trk:List Nat):S->S->Prop
 | refl (s:S):Outs ord trk s s
 | step {s s' s'':S}:Outs ord trk s s'->out ord trk s'=some s''->Outs ord trk s s''
def init(many:Nat):S:=⟨List.replicate many [],0,[]⟩
inductive Run(ord trk:List Nat)(many:Nat):Nat->S->Prop
 | zero:Run ord trk many 0 (init many)
 | succ {i:Nat} {s s':S}:Run ord trk many i s->Outs ord trk (inn trk s i) s'->out ord trk s'=none->Run ord trk many (i+1) s'
section
variable {T:List Int} {ord trk:List Nat} {many:Nat}
def yst(T:List Int)(ord:List Nat)(s:S)(i:Nat):Yd.St:=⟨s.st.map fun c=>c.map fun p=>T.getD p 0,(ord.take s.gone).map fun p=>T.getD p 0,i⟩
theorem getD_map{s:List (List Nat)}{f:Nat->Int}(t:Nat):(s.map fun c=>c.map f).getD t []=(s.getD t []).map f:=by
 rw [List.getD_eq_getElem?_getD,List.getD_eq_getElem?_getD,List.getElem?_map]
 cases s[t]?<;>rfl
theorem yd_inn{s:S}{i:Nat}(hi:i < T.length):Yd.step T true (yst T ord s i) (true,trk.getD i 0)=some (yst T ord (inn trk s i) (i+1)):=by
 unfold Yd.step
 rw [if_pos rfl]
 show (match T[i]? with | some x=>_ | none=>none)=_
 rw [List.getElem?_eq_getElem hi]
 show some (Yd.St.mk _ _ _)=some (Yd.St.mk _ _ _)
 congr 2
 show List.set (s.st.map fun c=>c.map fun p=>T.getD p 0) (trk.getD i 0) ((s.st.map fun c=>c.map fun p=>T.getD p 0).getD (trk.getD i 0) []++[T[i]])=(s.st.set (trk.getD i 0) (s.st.getD (trk.getD i 0) []++[i])).map _
 rw [List.map_set,getD_map,List.map_append]
 congr 2
 show [T[i]]=[T.getD i 0]
 rw [List.getD_eq_getElem?_getD,List.getElem?_eq_getElem hi]
 rfl
theorem yd_out{s s':S}{i:Nat}(h:out ord trk s=some s'):∃ m,s'.mv=s.mv++[m] /\ Yd.step T true (yst T ord s i) m=some (yst T ord s' i):=by
 unfold out at h
 cases e:ord[s.gone]? with
 | none=>rw [e] at h;cases h
 | some w=>
  rw [e] at h
  dsimp only at h
  split at h
  ·rename_i hl
   cases h
   refine ⟨_,rfl,?_⟩
   unfold Yd.step
   rw [if_neg Bool.false_ne_true,if_pos rfl]
   show (match ((s.st.map fun c=>c.map fun p=>T.getD p 0).getD (trk.getD w 0) []).getLast? with | some x=>_ | none=>none)=_
   rw [getD_map,List.getLast?_map,hl]
   show some (Yd.St.mk _ _ _)=some (Yd.St.mk _ _ _)
   congr 2
   ·show List.set (s.st.map fun c=>c.map fun p=>T.getD p 0) (trk.getD w 0) (List.dropLast ((s.st.map fun c=>c.map fun p=>T.getD p 0).getD (trk.getD w 0) []))=(s.st.set (trk.getD w 0) _).map _
    rw [List.map_set,getD_map,List.map_dropLast]
   ·show (ord.take s.gone).map (fun p=>T.getD p 0)++[T.getD w 0]=(ord.take (s.gone+1)).map fun p=>T.getD p 0
    rw [List.take_add_one,e,List.map_append]
    rfl
  ·cases h
theorem yd_outs{s s':S}{i:Nat}(h:Outs ord trk s s'):∃ ms,s'.mv=s.mv++ms /\ ∀ y,Yd.steps T true y s.mv=some (yst T ord s i)->Yd.steps T true y s'.mv=some (yst T ord s' i):=by
 induction h with
 | refl=>exact ⟨[],by simp,fun _ q=>q⟩
 | step h e ih=>
  obtain ⟨ms,e1,q⟩:=ih
  obtain ⟨m,e2,z⟩:=yd_out (T:=T) (i:=i) e
  refine ⟨ms++[m],by rw [e2,e1,List.append_assoc],fun y hy=>?_⟩
  rw [e2,Yd.steps_snoc,q y hy]
  exact z
theorem yd_run{n i:Nat}{s:S}(h:Run ord trk many i s)(hi:i <= T.length):Yd.steps T true (Yd.init many) s.mv=some (yst T ord s i):=by
 induction h with
 | zero=>
  show some (Yd.init many)=_
  unfold yst init Yd.init
  simp
 | @succ i s s' h o _ ih=>
  have q:=ih (by omega)
  obtain ⟨ms,_,z⟩:=yd_outs (T:=T) (i:=i+1) o
  refine z _ ?_
  show Yd.steps T true (Yd.init many) (s.mv++[(true,trk.getD i 0)])=_
  rw [Yd.steps_snoc,q]
  exact yd_inn (by omega)
end
section
variable {ord trk:List Nat} {many n:Nat}
structure Ord(ord:List Nat)(n:Nat):Prop where
 nd:ord.Nodup
 mem:∀ p,p∈ord↔p < n
theorem Ord.at_(h:Ord ord n){p:Nat}(hp:p < n):ord[ord.idxOf p]?=some p:=by
 have hm:=(h.mem p).mpr hp
 rw [List.getElem?_eq_getElem (List.idxOf_lt_length_iff.mpr hm),List.getElem_idxOf]
theorem Ord.idx(h:Ord ord n){j p:Nat}(e:ord[j]?=some p):ord.idxOf p=j:=by
 obtain ⟨hj,rfl⟩:=List.getElem?_eq_some_iff.mp e
 exact h.nd.idxOf_getElem j hj
theorem Ord.lt(h:Ord ord n){j p:Nat}(e:ord[j]?=some p):p < n:=(h.mem p).mp (List.mem_of_getElem? e)
theorem Ord.inj(h:Ord ord n){p q:Nat}(hp:p < n)(hq:q < n)(e:ord.idxOf p=ord.idxOf q):p=q:=by
 have a:=h.at_ hp
 rw [e,h.at_ hq] at a
 exact (Option.some.inj a).symm
def Blocked(ord trk:List Nat)(s:S)(i:Nat):Prop:=∃ w,ord[s.gone]?=some w /\ w < i /\ (s.st.getD (trk.getD w 0) []).getLast?≠some w
structure J(ord trk:List Nat)(many n i:Nat)(s:S):Prop where
 len:s.st.length=many
 here:∀ t p,p∈s.st.getD t []↔(p < i /\ trk.getD p 0=t /\ s.gone <= ord.idxOf p)
 up:∀ t (k a b:Nat),(s.st.getD t [])[k]?=some a->(s.st.getD t [])[k+1]?=some b->a < b
 adj:∀ t (k a b:Nat),(s.st.getD t [])[k]?=some a->(s.st.getD t [])[k+1]?=some b->ord.idxOf a < ord.idxOf b->
  ∃ r w,r < ord.idxOf a /\ ord[r]?=some w /\ (b < w \/ (s.gone=r /\ Blocked ord trk s i))
theorem getD_set{s:List (List Nat)}{t t':Nat}{c:List Nat}(ht:t < s.length):(s.set t c).getD t' []=if t'=t then c else s.getD t' []:=by
 rw [List.getD_eq_getElem?_getD,List.getD_eq_getElem?_getD,List.getElem?_set]
 by_cases e:t=t'
 ·subst e
  rw [if_pos rfl,if_pos rfl,if_pos ht]
  rfl
 ·rw [if_neg e,if_neg (Ne.symm e)]
theorem out_blocked{s:S}{i:Nat}(b:Blocked ord trk s i):out ord trk s=none:=by
 obtain ⟨w,e,_,h⟩:=b
 unfold out
 rw [e]
 exact if_neg h
theorem J.left(O:Ord ord n)(j:J ord trk many n i s)(ht:∀ p,p < n->trk.getD p 0 < many)(e:out ord trk s=some s'):J ord trk many n i s':=by
 have nb:¬ Blocked ord trk s i:=fun b=>by rw [out_blocked b] at e;cases e
 unfold Sh.out at e
 cases ew:ord[s.gone]? with
 | none=>rw [ew] at e;cases e
 | some w=>
  rw [ew] at e
  dsimp only at e
  split at e
  ·rename_i hl
   cases e
   have hw:=O.lt ew
   have htw:trk.getD w 0 < s.st.length:=by rw [j.len];exact ht w hw
   have iw:=O.idx ew
   have hge:∀ t',(s.st.set (trk.getD w 0) (s.st.getD (trk.getD w 0) []).dropLast).getD t' []=if t'=trk.getD w 0 then (s.st.getD (trk.getD w 0) []).dropLast else s.st.getD t' []:=fun t'=>getD_set htw
   have hsp:s.st.getD (trk.getD w 0) []=(s.st.getD (trk.getD w 0) []).dropLast++[w]:=by
    have hne:s.st.getD (trk.getD w 0) []≠[]:=fun z=>by rw [z] at hl;cases hl
    rw [List.getLast?_eq_some_getLast hne] at hl
    have:=List.dropLast_concat_getLast hne
    rw [Option.some.inj hl] at this
    exact this.symm
   have hnot:w∉(s.st.getD (trk.getD w 0) []).dropLast:=fun hm=>by
    obtain ⟨k,hk,ek⟩:=List.getElem_of_mem hm
    have hk':k < (s.st.getD (trk.getD w 0) []).length - 1:=by rw [List.length_dropLast] at hk;exact hk
    have mono:∀ d,k+d < (s.st.getD (trk.getD w 0) []).length->∀ a,(s.st.getD (trk.getD w 0) [])[k+d]?=some a->(0 < d->w < a) /\ (d=0->a=w):=by
     intro d
     induction d with
     | zero=>
      intro hd a ea
      refine ⟨fun z=>absurd z (by omega),fun _=>?_⟩
      rw [List.getElem_dropLast] at ek
      rw [Nat.add_zero,List.getElem?_eq_getElem (by omega),ek] at ea
      exact (Option.some.inj ea).symm
     | succ d ih=>
      intro hd a ea
      have q:=ih (by omega) _ (List.getElem?_eq_getElem (by omega))
      have u:=j.up _ (k+d) _ a (List.getElem?_eq_getElem (by omega)) ea
      refine ⟨fun _=>?_,fun z=>absurd z (by omega)⟩
      cases d with
      | zero=>rw [q.2 rfl] at u;exact u
      | succ d=>have:=q.1 (by omega);omega
    have hlast:(s.st.getD (trk.getD w 0) [])[(s.st.getD (trk.getD w 0) []).length - 1]?=some w:=by rw [<- List.getLast?_eq_getElem?];exact hl
    have:=(mono ((s.st.getD (trk.getD w 0) []).length - 1 - k) (by omega) w (by rw [show k+((s.st.getD (trk.getD w 0) []).length - 1 - k)=(s.st.getD (trk.getD w 0) []).length - 1 from by omega];exact hlast)).1 (by omega)
    omega
   have sub:∀ {t k a},((s.st.set (trk.getD w 0) (s.st.getD (trk.getD w 0) []).dropLast).getD t [])[k]?=some a->(s.st.getD t [])[k]?=some a:=fun {t k a} z=>by
    rw [hge t] at z
    split at z
    ·rename_i et
     subst et
     rw [List.getElem?_dropLast] at z
     split at z
     ·exact z
     ·cases z
    ·exact z
   refine ⟨by show (s.st.set _ _).length=_;rw [List.length_set];exact j.len,fun t p=>?_,fun t k a b z1 z2=>j.up t k a b (sub z1) (sub z2),fun t k a b z1 z2 z3=>?_⟩
   ·show p∈(s.st.set (trk.getD w 0) _).getD t []↔_ /\ _ /\ s.gone+1 <= _
    rw [hge t]
    by_cases et:t=trk.getD w 0
    ·rw [if_pos et]
     subst et
     constructor
     ·intro hp
      have hp':p∈s.st.getD (trk.getD w 0) []:=by rw [hsp];exact List.mem_append_left _ hp
      obtain ⟨h1,h2,h3⟩:=(j.here _ p).mp hp'
      refine ⟨h1,h2,?_⟩
      by_cases z:ord.idxOf p=s.gone
      ·have:p=w:=by
        have hpm:p < n \/ ¬ p < n:=Decidable.em _
        rcases hpm with hpn | hpn
        ·have:=O.at_ hpn
         rw [z,ew] at this
         exact (Option.some.inj this).symm
        ·have:p∉ord:=fun hm=>hpn ((O.mem p).mp hm)
         have hl2:=List.idxOf_eq_length (l:=ord) (a:=p) this
         have:=(List.getElem?_eq_some_iff.mp ew).1
         omega
       exact absurd (this ▸ hp) hnot
      ·omega
     ·rintro ⟨h1,h2,h3⟩
      have hp':=(j.here (trk.getD w 0) p).mpr ⟨h1,h2,by omega⟩
      rw [hsp] at hp'
      rcases List.mem_append.mp hp' with z | z
      ·exact z
      ·rw [List.mem_singleton.mp z,iw] at h3
       omega
    ·rw [if_neg et]
     constructor
     ·intro hp
      obtain ⟨h1,h2,h3⟩:=(j.here t p).mp hp
      refine ⟨h1,h2,?_⟩
      by_cases z:ord.idxOf p=s.gone
      ·exfalso
       by_cases hpn:p < n
       ·have:=O.at_ hpn
        rw [z,ew] at this
        rw [<- Option.some.inj this] at h2
        exact et h2.symm
       ·have:p∉ord:=fun hm=>hpn ((O.mem p).mp hm)
        have hl2:=List.idxOf_eq_length (l:=ord) (a:=p) this
        have:=(List.getElem?_eq_some_iff.mp ew).1
        omega
      ·omega
     ·rintro ⟨h1,h2,h3⟩
      exact (j.here t p).mpr ⟨h1,h2,by omega⟩
   ·obtain ⟨r,w',h1,h2,h3⟩:=j.adj t k a b (sub z1) (sub z2) z3
    rcases h3 with h3 | ⟨_,h3⟩
    ·exact ⟨r,w',h1,h2,.inl h3⟩
    ·exact absurd h3 nb
  ·cases e
theorem J.outs(O:Ord ord n)(ht:∀ p,p < n->trk.getD p 0 < many){s s':S}(o:Outs ord trk s s')(j:J ord trk many n i s):J ord trk many n i s':=by
 induction o with
 | refl=>exact j
 | step _ e ih=>exact ih.left O ht e
theorem J.come(O:Ord ord n)(j:J ord trk many n i s)(ht:∀ p,p < n->trk.getD p 0 < many)(hi:i < n)(no:Sh.out ord trk s=none)(hg:∀ p,p < n->ord.idxOf p < s.gone->p < i):J ord trk many n (i+1) (inn trk s i):=by
 have hti:trk.getD i 0 < s.st.length:=by rw [j.len];exact ht i hi
 have hge:∀ t',(s.st.set (trk.getD i 0) (s.st.getD (trk.getD i 0) []++[i])).getD t' []=if t'=trk.getD i 0 then s.st.getD (trk.getD i 0) []++[i] else s.st.getD t' []:=fun t'=>getD_set hti
 have bl:∀ w,ord[s.gone]?=some w->w < i->Blocked ord trk (inn trk s i) (i+1):=fun w ew hw=>by
  refine ⟨w,ew,by omega,?_⟩
  show ((s.st.set (trk.getD i 0) _).getD (trk.getD w 0) []).getLast?≠_
  rw [hge]
  split
  ·rw [List.getLast?_append,List.getLast?_singleton]
   intro z
   have:i=w:=Option.some.inj z
   omega
  ·intro z
   unfold Sh.out at no
   rw [ew] at no
   dsimp only at no
   rw [if_pos z] at no
   cases no
 refine ⟨by show (s.st.set _ _).length=_;rw [List.length_set];exact j.len,fun t p=>?_,fun t k a b z1 z2=>?_,fun t k a b z1 z2 z3=>?_⟩
 ·show p∈(s.st.set (trk.getD i 0) _).getD t []↔_
  rw [hge t]
  have ing:s.gone <= ord.idxOf i:=by
   by_cases z:s.gone <= ord.idxOf i
   ·exact z
   ·have:=hg i hi (by omega)
    omega
  by_cases et:t=trk.getD i 0
  ·rw [if_pos et,List.mem_append,List.mem_singleton]
   subst et
   constructor
   ·rintro (h | rfl)
    ·obtain ⟨h1,h2,h3⟩:=(j.here _ p).mp h
     exact ⟨by omega,h2,h3⟩
    ·exact ⟨by omega,rfl,ing⟩
   ·rintro ⟨h1,h2,h3⟩
    by_cases z:p=i
    ·exact .inr z
    ·exact .inl ((j.here _ p).mpr ⟨by omega,h2,h3⟩)
  ·rw [if_neg et]
   constructor
   ·intro h
    obtain ⟨h1,h2,h3⟩:=(j.here _ p).mp h
    exact ⟨by omega,h2,h3⟩
   ·rintro ⟨h1,h2,h3⟩
    by_cases z:p=i
    ·rw [z] at h2;exact absurd h2.symm et
    ·exact (j.here _ p).mpr ⟨by omega,h2,h3⟩
 ·have z1':((s.st.set (trk.getD i 0) (s.st.getD (trk.getD i 0) []++[i])).getD t [])[k]?=some a:=z1
  have z2':((s.st.set (trk.getD i 0) (s.st.getD (trk.getD i 0) []++[i])).getD t [])[k+1]?=some b:=z2
  rw [hge t] at z1' z2'
  split at z1'
  ·rename_i et
   rw [if_pos et] at z2'
   rw [List.getElem?_append] at z1' z2'
   split at z2'
   ·rw [if_pos (by omega)] at z1'
    exact j.up _ k a b z1' z2'
   ·rename_i hk
    have hb:b=i:=by
     cases q:k+1 - (s.st.getD (trk.getD i 0) []).length with
     | zero=>rw [q] at z2';exact (Option.some.inj z2').symm
     | succ d=>rw [q] at z2';simp at z2'
    split at z1'
    ·obtain ⟨h1,_⟩:=(j.here _ a).mp (List.mem_of_getElem? z1')
     omega
    ·have:k+1 - (s.st.getD (trk.getD i 0) []).length≠0:=by omega
     cases q:k+1 - (s.st.getD (trk.getD i 0) []).length with
     | zero=>exact absurd q this
     | succ d=>rw [q] at z2';simp at z2'
  ·rename_i et
   rw [if_neg et] at z2'
   exact j.up _ k a b z1' z2'
 ·have z1':((s.st.set (trk.getD i 0) (s.st.getD (trk.getD i 0) []++[i])).getD t [])[k]?=some a:=z1
  have z2':((s.st.set (trk.getD i 0) (s.st.getD (trk.getD i 0) []++[i])).getD t [])[k+1]?=some b:=z2
  have old:∀ {t:Nat},(s.st.getD t [])[k]?=some a->(s.st.getD t [])[k+1]?=some b->∃ r w,r < ord.idxOf a /\ ord[r]?=some w /\ (b < w \/ ((inn trk s i).gone=r /\ Blocked ord trk (inn trk s i) (i+1))):=fun {t} y1 y2=>by
   obtain ⟨r,w,h1,h2,h3⟩:=j.adj t k a b y1 y2 z3
   rcases h3 with h3 | ⟨h3,w',e1,e2,_⟩
   ·exact ⟨r,w,h1,h2,.inl h3⟩
   ·exact ⟨r,w,h1,h2,.inr ⟨h3,bl w' e1 e2⟩⟩
  rw [hge t] at z1' z2'
  split at z1'
  ·rename_i et
   rw [if_pos et] at z2'
   rw [List.getElem?_append] at z1' z2'
   split at z2'
   ·rw [if_pos (by omega)] at z1'
    exact old z1' z2'
   ·rename_i hk
    have hkb:k+1 - (s.st.getD (trk.getD i 0) []).length=0 /\ b=i:=by
     cases q:k+1 - (s.st.getD (trk.getD i 0) []).length with
     | zero=>rw [q] at z2';exact ⟨rfl,(Option.some.inj z2').symm⟩
     | succ d=>rw [q] at z2';simp at z2'
    obtain ⟨hk0,rfl⟩:=hkb
    split at z1'
    ·rename_i hk1
     obtain ⟨h1,h2,h3⟩:=(j.here _ a).mp (List.mem_of_getElem? z1')
     have htop:(s.st.getD (trk.getD b 0) []).getLast?=some a:=by
      rw [List.getLast?_eq_getElem?,show (s.st.getD (trk.getD b 0) []).length - 1=k from by omega]
      exact z1'
     have hlt:s.gone < ord.idxOf a:=by
      rcases Nat.lt_or_ge s.gone (ord.idxOf a) with q | q
      ·exact q
      ·exfalso
       have ea:s.gone=ord.idxOf a:=by omega
       have:=O.at_ (p:=a) (by omega)
       rw [<- ea] at this
       unfold Sh.out at no
       rw [this] at no
       dsimp only at no
       rw [h2,if_pos htop] at no
       cases no
     have hgl:s.gone < ord.length:=Nat.lt_of_lt_of_le hlt (List.idxOf_le_length)
     obtain ⟨w,ew⟩:∃ w,ord[s.gone]?=some w:=⟨_,List.getElem?_eq_getElem hgl⟩
     refine ⟨s.gone,w,hlt,ew,?_⟩
     rcases Nat.lt_trichotomy w b with q | q | q
     ·exact .inr ⟨rfl,bl w ew q⟩
     ·rw [q] at ew
      have:=O.idx ew
      omega
     ·exact .inl q
    ·omega
  ·rename_i et
   rw [if_neg et] at z2'
   exact old z1' z2'
theorem outs_gone{s s':S}(O:Ord ord n)(ht:∀ p,p < n->trk.getD p 0 < many)(o:Outs ord trk s s')(j:J ord trk many n i s)(hg:∀ p,p < n->ord.idxOf p < s.gone->p < i):∀ p,p < n->ord.idxOf p < s'.gone->p < i:=by
 induction o with
 | refl=>exact hg
 | step o e ih=>
  rename_i s' s''
  have j':=j.outs O ht o
  intro p hp hlt
  unfold Sh.out at e
  cases ew:ord[s'.gone]? with
  | none=>rw [ew] at e;cases e
  | some w=>
   rw [ew] at e
   dsimp only at e
   split at e
   ·rename_i hl
    cases e
    by_cases z:ord.idxOf p < s'.gone
    ·exact ih p hp z
    ·have hlt':ord.idxOf p < s'.gone+1:=hlt
     have:ord.idxOf p=s'.gone:=by omega
     have hpw:p=w:=by
      have:=O.at_ hp
      rw [‹ord.idxOf p=s'.gone›,ew] at this
      exact (Option.some.inj this).symm
     have:=(j'.here (trk.getD w 0) w).mp (List.mem_of_mem_getLast? hl)
     rw [hpw]
     exact this.1
   ·cases e
theorem J.run(O:Ord ord n)(ht:∀ p,p < n->trk.getD p 0 < many){i:Nat}{s:S}(r:Run ord trk many i s)(hi:i <= n):J ord trk many n i s /\ (∀ p,p < n->ord.idxOf p < s.gone->p < i) /\ (i=0 \/ Sh.out ord trk s=none) /\ s.gone <= n:=by
 induction r with
 | zero=>
  have hnil:∀ t,(List.replicate many ([]:List Nat)).getD t []=[]:=fun t=>by
   rw [List.getD_eq_getElem?_getD,List.getElem?_replicate]
   split<;>rfl
  refine ⟨⟨List.length_replicate,fun t p=>?_,fun t k a b z=>?_,fun t k a b z=>?_⟩,fun p _ z=>absurd z (Nat.not_lt_zero _),.inl rfl,Nat.zero_le _⟩
  ·show p∈(List.replicate many ([]:List Nat)).getD t []↔_
   rw [hnil]
   simp
  ·have z':((List.replicate many ([]:List Nat)).getD t [])[k]?=some a:=z
   rw [hnil] at z';simp at z'
  ·have z':((List.replicate many ([]:List Nat)).getD t [])[k]?=some a:=z
   rw [hnil] at z';simp at z'
 | succ r o no ih=>
  rename_i i s s'
  obtain ⟨j,hg,hn,hl⟩:=ih (by omega)
  have no0:Sh.out ord trk s=none:=by
   rcases hn with rfl | hn
   ·cases r
    unfold Sh.out init
    cases ord[0]? with
    | none=>rfl
    | some w=>
     dsimp only
     rw [if_neg]
     rw [List.getD_eq_getElem?_getD,List.getElem?_replicate]
     split<;>simp
   ·exact hn
  have j1:=j.come O ht (by omega) no0 hg
  have hg1:∀ p,p < n->ord.idxOf p < (inn trk s i).gone->p < i+1:=fun p hp z=>Nat.lt_succ_of_lt (hg p hp z)
  have hg2:=outs_gone O ht o j1 hg1
  refine ⟨j1.outs O ht o,hg2,.inr no,?_⟩
  clear no hg2
  induction o with
  | refl=>exact hl
  | step o e ih=>
   unfold Sh.out at e
   split at e
   ·cases e
   ·rename_i w ew
    split at e
    ·cases e
     have h1:=(List.getElem?_eq_some_iff.mp ew).1
     have h2:ord.length <= n:=by
      have:=List.Nodup.length_le_of_subset O.nd (l₂:=List.range n) fun x hx=>List.mem_range.mpr ((O.mem x).mp hx)
      rw [List.length_range] at this
      exact this
     show _+1 <= n
     omega
    ·cases e
theorem run_end(O:Ord ord n)(ht:∀ p,p < n->trk.getD p 0 < many){s:S}(r:Run ord trk many n s)(h:s.gone < n):
  ∃ f c k,ord[s.gone]?=some f /\ f < n /\ (s.st.getD (trk.getD f 0) [])[k]?=some f /\ (s.st.getD (trk.getD f 0) [])[k+1]?=some c /\ (∀ k' < k,(s.st.getD (trk.getD f 0) [])[k']?≠some f) /\
   f < c /\ c < n /\ trk.getD c 0=trk.getD f 0 /\ ord.idxOf f < ord.idxOf c /\ ∃ q w,q < s.gone /\ ord[q]?=some w /\ c < w:=by
 obtain ⟨j,_,hn,_⟩:=J.run O ht r (Nat.le_refl _)
 have hlen:ord.length=n:=by
  have h1:ord.length <= n:=by
   have:=List.Nodup.length_le_of_subset O.nd (l₂:=List.range n) fun x hx=>List.mem_range.mpr ((O.mem x).mp hx)
   rw [List.length_range] at this
   exact this
  have h2:n <= ord.length:=by
   have:=List.Nodup.length_le_of_subset (List.nodup_range (n:=n)) fun x hx=>(O.mem x).mpr (List.mem_range.mp hx)
   rw [List.length_range] at this
   exact this
  omega
 obtain ⟨f,ef⟩:∃ f,ord[s.gone]?=some f:=⟨_,List.getElem?_eq_getElem (by omega)⟩
 have hf:=O.lt ef
 have idf:=O.idx ef
 have hm:f∈s.st.getD (trk.getD f 0) []:=(j.here _ f).mpr ⟨hf,rfl,by omega⟩
 have no:Sh.out ord trk s=none:=hn.resolve_left (by omega)
 have hnl:(s.st.getD (trk.getD f 0) []).getLast?≠some f:=fun z=>by
  unfold Sh.out at no
  rw [ef] at no
  dsimp only at no
  rw [if_pos z] at no
  cases no
 have hk:=List.idxOf_lt_length_iff.mpr hm
 have ek:(s.st.getD (trk.getD f 0) [])[(s.st.getD (trk.getD f 0) []).idxOf f]?=some f:=by rw [List.getElem?_eq_getElem hk,List.getElem_idxOf]
 have hk1:(s.st.getD (trk.getD f 0) []).idxOf f+1 < (s.st.getD (trk.getD f 0) []).length:=by
  rcases Nat.lt_or_ge ((s.st.getD (trk.getD f 0) []).idxOf f+1) (s.st.getD (trk.getD f 0) []).length with q | q
  ·exact q
  ·exfalso
   apply hnl
   rw [List.getLast?_eq_getElem?,show (s.st.getD (trk.getD f 0) []).length - 1=(s.st.getD (trk.getD f 0) []).idxOf f from by omega]
   exact ek
 obtain ⟨c,ec⟩:∃ c,(s.st.getD (trk.getD f 0) [])[(s.st.getD (trk.getD f 0) []).idxOf f+1]?=some c:=⟨_,List.getElem?_eq_getElem hk1⟩
 have hfc:=j.up _ _ f c ek ec
 obtain ⟨c1,c2,c3⟩:=(j.here _ c).mp (List.mem_of_getElem? ec)
 have hne:ord.idxOf c≠ord.idxOf f:=fun z=>by
  have:=O.inj c1 hf z
  omega
 have hlt:ord.idxOf f < ord.idxOf c:=by omega
 obtain ⟨q,w,h1,h2,h3⟩:=j.adj _ _ f c ek ec hlt
 refine ⟨f,c,_,ef,hf,ek,ec,fun k' hk' z=>?_,hfc,c1,c2,hlt,q,w,by omega,h2,?_⟩
 ·have z':=(List.getElem?_eq_some_iff.mp z)
  obtain ⟨hz,ez⟩:=z'
  exact absurd ez (by
   have:=List.not_of_lt_findIdx (p:=fun x=>x==f) (xs:=s.st.getD (trk.getD f 0) []) (i:=k') (by unfold List.idxOf at hk';exact hk')
   intro y
   rw [y] at this
   simp at this)
 ·rcases h3 with h3 | ⟨h3,_⟩
  ·exact h3
  ·omega
end
end Sh
namespace L2
open PySem PySem.Spec PyProof.Rows
structure Rank(T:List Int)(ord:List Nat):Prop where
 perm:ord.Perm (List.range T.length)
 up:ord.Pairwise fun p q=>T.getD p 0 <= T.getD q 0
theorem Rank.ord{T:List Int}{ord:List Nat}(h:Rank T ord):Sh.Ord ord T.length:=⟨h.perm.nodup_iff.mpr List.nodup_range,fun p=>by rw [h.perm.mem_iff,List.mem_range]⟩
theorem Rank.lt{T:List Int}{ord:List Nat}(h:Rank T ord)(hT:T.Nodup)(i j p q:Nat)(hij:i < j)(e1:ord[i]?=some p)(e2:ord[j]?=some q):T.getD p 0 < T.getD q 0:=by
 obtain ⟨hi,rfl⟩:=List.getElem?_eq_some_iff.mp e1
 obtain ⟨hj,rfl⟩:=List.getElem?_eq_some_iff.mp e2
 have hle:=List.pairwise_iff_getElem.mp h.up i j hi hj hij
 have hp:=h.ord.lt e1
 have hq:=h.ord.lt e2
 have hne:T.getD ord[i] 0≠T.getD ord[j] 0:=fun z=>by
  rw [List.getD_eq_getElem?_getD,List.getD_eq_getElem?_getD,List.getElem?_eq_getElem hp,List.getElem?_eq_getElem hq] at z
  have z':T[ord[i]]=T[ord[j]]:=z
  have:=(List.getElem_inj hT).mp z'
  have:=(List.getElem_inj h.ord.nd).mp this
  omega
 omega
section
variable {X:Cx} {E:XK}
theorem rank_of{T:List Int}{vs out:List Value}(hv:vs.length=T.length)(hi:∀ (j:Nat) (v:Value),vs[j]?=some v->∃ t,v=.int (j:Int) t)(h:KskOut false T vs out):∃ ord,Rank T ord /\ Vals (ord.map fun (p:Nat)=>V.int (p:Int)) out:=by
 obtain ⟨ps,hp,rfl,hs⟩:=h
 let f:Int × Value->Nat:=fun p=>match p.2 with | .int i _=>i.toNat | _=>0
 have hmem:∀ p∈ps,∃ (j:Nat) (t:Tok),p.2=.int (j:Int) t /\ j < T.length /\ T.getD j 0=p.1 /\ f p=j:=fun p hpm=>by
  have hm:=hp.mem_iff.mp hpm
  obtain ⟨j,hj,e⟩:=List.getElem_of_mem hm
  rw [List.length_zip,hv,Nat.min_self] at hj
  rw [List.getElem_zip] at e
  obtain ⟨t,et⟩:=hi j vs[j] (List.getElem?_eq_getElem (by omega))
  refine ⟨j,t,?_,hj,?_,?_⟩
  ·rw [<- e];exact et
  ·rw [List.getD_eq_getElem?_getD,List.getElem?_eq_getElem hj,<- e];rfl
  ·rw [<- e]
   show (match vs[j] with | .int i _=>i.toNat | _=>0)=j
   rw [et]
   exact Int.toNat_natCast j
 refine ⟨ps.map f,⟨?_,?_⟩,?_⟩
 ·have h1:=hp.map f
  have h2:(T.zip vs).map f=List.range T.length:=by
   refine List.ext_getElem? fun k=>?_
   rw [List.getElem?_map]
   by_cases hk:k < T.length
   ·rw [List.getElem?_eq_getElem (by rw [List.length_zip,hv,Nat.min_self];exact hk),List.getElem?_range hk,List.getElem_zip]
    obtain ⟨t,et⟩:=hi k vs[k] (List.getElem?_eq_getElem (by omega))
    show some (match vs[k] with | .int i _=>i.toNat | _=>0)=some k
    rw [et]
    exact congrArg some (Int.toNat_natCast k)
   ·rw [List.getElem?_eq_none_iff.mpr (by rw [List.length_zip,hv,Nat.min_self];omega),List.getElem?_eq_none_iff.mpr (by rw [List.length_range];omega)]
    rfl
  rw [h2] at h1
  exact h1
 ·rw [List.pairwise_map]
  refine hs.imp_of_mem fun {p q} hp' hq' hle=>?_
  obtain ⟨j,_,_,_,e1,e2⟩:=hmem p hp'
  obtain ⟨k,_,_,_,e3,e4⟩:=hmem q hq'
  rw [e2,e4,e1,e3]
  simpa using hle
 ·clear hs hp
  induction ps with
  | nil=>exact .nil
  | cons p r ih=>
   obtain ⟨j,t,e1,_,_,e2⟩:=hmem p List.mem_cons_self
   refine .cons ?_ (ih fun q hq=>hmem q (List.mem_cons_of_mem _ hq))
   rw [e2]
   exact ⟨t,e1⟩
theorem Inv.adopt{pins:List (Addr × Obj)}{σ:St}{H:Hp}{s:Shared}{a:Addr}{xs:List V}{its:List Value}{m:Nat}(I:Inv X pins σ H s)(f:FpOk X pins H a)(n2:X.s₀.heap.objs.size <= a)
  (ho:s.heap.get? a=some { cls:=.type "list",data:=.seq its.toArray m }) (rv:Vals xs its) (hz:xs.length <= sizeLine):Inv X pins σ (upd H a (.lst xs)) s:=by
 have n1:=f.1
 refine ⟨I.ok,I.os,I.bare,⟨I.base.keep,I.base.slot,fun b o q n hx=>?_,I.base.there,fun b xs q=>upd_get (I.base.tups b xs q) n1,fun b o u q=>upd_get (I.base.frzs b o u q) n1,fun b pl y q=>upd_get (I.base.tbls b pl y q) n1⟩,I.loc,I.cell,
  by rw [upd_ne f.2.1.symm];exact I.free,fun x c e=>by rw [upd_ne (f.2.2.2.2.1 x c e)];exact I.freeC x c e,fun p hp=>?_,fun b o q=>?_,I.len⟩
 ·rw [upd_ne (fun z=>by rw [z,Heap.get?_none_of_le n2] at q;cases q)]
  exact I.base.free b o q n hx
 ·obtain ⟨p1,p2,p3⟩:=I.pin p hp
  exact ⟨p1,by rw [upd_ne (f.2.2.2.2.2 p hp)];exact p2,p3⟩
 ·by_cases hb:b=a
  ·subst hb
   rw [upd_same] at q
   cases q
   exact ⟨hz,its,m,rv,ho⟩
  ·rw [upd_ne hb] at q
   exact (I.hok b o q).stay (fun c v _ r=>r) (fun c r=>upd_get r n1) (fun c xs r=>upd_get r n1) fun c ob y r=>upd_get r n1
def KB(lim:Nat)(P:Addr)(pl:Pos)(q:Str)(j:Nat)(σ:St)(Q:VK)(v:V)(H1:Hp):Prop:=∃ (r a:Addr) (T:List Int),v=.ref r /\ H1 r=some (.rng 0 T.length) /\ σ[j]?=some (some (.ref a)) /\ H1 a=some (.lst (T.map V.int)) /\ T.length <= lim /\ H1 P=some (.tbl pl q) /\
 ∀ (l:Addr) (H':Hp) (ord:List Nat),Same H1 H'->H1 l=none->Rank T ord->H' l=some (.lst (ord.map fun (p:Nat)=>V.int (p:Int)))->Q (.ref l) H'
def tKey(lim:Nat)(P:Addr)(pl:Pos)(q:Str)(te:TE)(j:Nat):TE:=fun σ H Q=>te σ H (KB lim P pl q j σ Q)
theorem pe_key{k:Nat}{P c:Addr}{x y:Str}{p cpos kp lpos spos xpos ypos:Pos}{e:Expr}{scope:Scope}{j:Nat}{te:TE}{params:Arguments}
  {lim:Nat} (srt:SortTo lim) (hlim:lim <= 100000) (he:PE X e te) (hr:Room (k+1) X.A) (hcode:X.env.code=.ref c) (C:∀ {h:Heap},X.K.In h->PySem.W.CodeHd h c P) (S:CSc X scope [x,y] [none,some j]) (hxl:scope.names.lookup x=some .local) (hyl:scope.names.lookup y=some .free)
  (hco:scope.isCoroutine=false) (hgen:scope.isGenerator=false) (hg:Gl X "sorted") (hm:X.mg "sorted"=none) (hdef:defaultsOf params X.env=([],[]))
  (hbind:∀ (cl:List (Str × Addr)) (pm cdv ctv v:Value),bindArgs (PySem.W.kla_fn "<lambda>" (X.env.qual ++ "<lambda>") params (.Subscript (.Name y ypos) (.Name x xpos) spos) scope cl pm cdv ctv) ⟨[v],[]⟩=pure [(x,v)])
  (dx:(x==("__debug__":Str))=false:=by decide) (dx':(x==("__classdict__":Str))=false:=by decide) (dy:(y==("__debug__":Str))=false:=by decide) (dy':(y==("__classdict__":Str))=false:=by decide)
  (hst:starEach [e] X.env=(false,eval e X.env) :: starEach [] X.env:=by rfl):
  PE X (.Call (.Name "sorted" p) [e] [⟨some "key",.Lambda params (.Subscript (.Name y ypos) (.Name x xpos) spos) scope lpos,kp⟩] cpos) (tKey lim P lpos (X.env.qual ++ "<lambda>") te j):=by
 intro pins s σ H Q I h
 refine wpAny_Call_Name_kw (ld_blt I hg hm (u:=.builtin "sorted") (by decide +kernel) ?_)
 have pa:PA X [e] (tCons te tNil):=pa_cons he pa_nil hst
 have hbt:backTo cpos (starEach [e] X.env)=(false,eval e X.env) :: backTo cpos (starEach [] X.env):=by rw [hst];rfl
 refine callWith_kw (thn (pa cpos pins s σ H (fun vs H1=>match vs with | [v]=>KB lim P lpos (X.env.qual ++ "<lambda>") j σ Q v H1 | _=>False) I h) fun us s1 ⟨vs,H1,I1,r1,q1⟩=>?_) hbt (by rw [hst];rfl)
 match vs,us,r1,q1 with
 | [_],_,.cons rr .nil,⟨r,a,T,ev,hrng,hσ,hT,hz,hP,q⟩=>
  subst ev
  cases (show _=Value.ref r from rr)
  show wpAny _ _ (evalAll [do let v <- eval (.Lambda params (.Subscript (.Name y ypos) (.Name x xpos) spos) scope lpos) X.env;standAt cpos;pure v]) _ _ s1
  refine wpAny_evalAll_cons (wpAny_bind (lam_make I1 hP hcode (C I1.mod.kin) S hdef fun f c' oc ws t ctv s2 H2 I2 hH hc' hdc hq=>wpAny_bind (wpAny_standAt (wpAny_pure (wpAny_evalAll_nil ?_)))))
  show wpAny _ _ (call (.builtin "sorted") [.ref r] [(Str.ofString "key",.ref f)]) _ _ s2
  have s12:Same H1 H2:=by
   rcases hH with rfl | ⟨b,hb,rfl⟩
   ·exact Same.refl _
   ·exact Same.upd hb
  refine call_function_entry_kw kind_sorted plain_sorted entry_sorted (ksk_s1 _ _) ?_
  unfold Builtin.«sorted»
  refine wpAny_bind (m:=checkCount "sorted" 1 1 _) (wpAny_pure ?_)
  obtain ⟨t1,t2,t3,ern⟩:=(show ObjOk X.prog X.w H2 s2.heap r (.rng 0 T.length) from I2.hok r _ (s12 _ _ hrng))
  have hn:Builtin.Range.rangeSize 0 (T.length:Int) 1=(T.length:Nat):=by rw [rangeSize_one];split<;>omega
  refine wpAny_bind (collect_rng (A:=X.A.in1) hr.hd ern (small_one (by omega) (by omega) (by omega) (by omega)) hn (by omega) fun h3 tk acc hk3 hacc=>?_)
  have hal:acc.toList.length=T.length:=by rw [Array.length_toList];exact hacc.1
  have hai:∀ (i:Nat) (v:Value),acc.toList[i]?=some v->∃ t,v=.int (i:Int) t:=fun i v e=>by
   obtain ⟨t',e'⟩:=hacc.2 i v (by simpa using e)
   exact ⟨t',by simpa using e'⟩
  refine wpAny_bind (wpAny_newList ?_ (by rw [hal,sizeLine_eq];omega))
  have I3:Inv X _ σ H2 { s2 with heap:=h3,toks:=tk }:=I2.kept hk3
  have I4:Inv X _ σ H2 { s2 with heap:=h3.push (seqObj "list" acc.toList.toArray 0),toks:=tk }:=I3.kept (t':=tk) fun b o e=>Heap.get?_push_of_some _ e
  have hoL:(h3.push (seqObj "list" acc.toList.toArray 0)).get? h3.objs.size=some (seqObj "list" acc.toList.toArray 0):=Heap.get?_push_size _ rfl
  have fa:=I3.fpOk (b:=h3.objs.size) (Nat.le_refl _) (I3.hok.fresh (Nat.le_refl _))
  refine wpAny_bind (wpAny_holding (wpAny_call_entry_kw slot_list_sort ⟨_,hoL,rfl⟩ entry_list_sort ?_ (ksk_l1 _ _)))
  show wpAny (model X.prog X.w) X.A.in1.in1 (Builtin.«list.sort» ⟨[.ref h3.objs.size],[(Str.ofString "key",.ref f)]⟩) _ _ { s2 with heap:=h3.push (seqObj "list" acc.toList.toArray 0),toks:=tk }
  rw [ksk_t1]
  refine key_sort (kz:=T) I4 hoL fa hal.symm srt hlim (by omega) ?_ ?_
  ·intro i v k' ei ek pins' s' hp' I'
   obtain ⟨t',rfl⟩:=hai i v ei
   refine wpAny_mono (lam_call (A:=X.A.in1.in1) (a:=.int (i:Int)) (b:=.ref a) (te:=tOp (rIxL X.K) (tVar 1) (tVar 0)) (Qv:=fun z H'=>z=.int k' /\ H'=H2) I' I'.ok.frames hr.hd hr.depth (hp' _ List.mem_cons_self) hc' hdc hq S hxl hco hgen (fun cdv=>hbind _ _ _ _ _) hσ ⟨t',rfl⟩
    (fun s''=>pe_ix ix_list (pe_var (i:=1) rfl (.inr (.inr hyl)) dy dy') (pe_var (i:=0) rfl (.inl hxl) dx dx') (fun _ _=>rfl)) ?_) (fun u s'' ⟨z,H',rz,⟨ez,eH⟩,J⟩=>?_) fun _ _ z=>z
   ·refine ⟨_,rfl,_,rfl,a,_,(i:Int),.int k',rfl,rfl,SqL.of (s12 _ _ hT),atI_nat (by rw [List.getElem?_map,ek];rfl),rfl,rfl⟩
   ·subst ez eH
    exact ⟨rz,J⟩
  ·intro s' out e' J ho hout
   refine ⟨_,rfl,wpAny_pure ⟨_,rfl,?_⟩⟩
   obtain ⟨ord,hord,hvals⟩:=rank_of hal hai hout
   have hol:ord.length=T.length:=by rw [hord.perm.length_eq,List.length_range]
   have fa':FpOk X pins H2 h3.objs.size:=⟨fa.1,fa.2.1,fa.2.2.1,fa.2.2.2.1,fa.2.2.2.2.1,fun p hp=>fa.2.2.2.2.2 p ((List.mem_append.mp hp).elim (fun z=>List.mem_append_left _ z) fun z=>List.mem_append_right _ (List.mem_cons_of_mem _ z))⟩
   have J':=J.pin_drop.adopt fa' (Nat.le_trans I3.sz (Nat.le_refl _)) (its:=out.toList) (m:=e') (by simpa using ho) hvals (by rw [List.length_map,hol,sizeLine_eq];omega)
   refine ⟨.ref h3.objs.size,_,J',rfl,q _ _ ord (s12.trans (Same.upd fa.1)) (s12.free fa.1) hord upd_same⟩
end
end L2
namespace L2
open PySem PySem.Spec PyProof.Rows
structure LmT(K:PySem.W.Frag)(mg:Str->Option Value)(x:Str)(st:Stmt)(ps:List Str)(c P:Addr):Prop where
 ex:∃ f fd,Fun K x x st f fd /\ mg x=some (.ref f) /\ Binds K fd ps [] /\ fd.code=.ref c
 hd:PySem.W.codeHdIn K c P=true
theorem Fun.okC{P:Program}{w:World}{K:PySem.W.Frag}{mg:Str->Option Value}{base:Heap}{x qual:Str}{st:Stmt}{f c:Addr}{fd:FuncData}{N ps:List Str}{k:Nat}{sp:Sp}(F:Fun K x qual st f fd)(hc:fd.code=.ref c)(S:FnScope N ps (defScope st))(len:∀ vs H Q E,sp vs H Q E->vs.length=ps.length)
  (hbody:∀ (A:Around) (outer:List Env) (s:Shared) (H:Hp) (vs:List V) (Q:VK) (E:XK),Room k (A.deeper (envOfC qual (defScope st) s.heap.objs.size f (.ref c)))->sp vs H Q E->
   ∃ t,PSs (cxOf CX0 P w K mg base N qual (defScope st) f (.ref c) A outer s H E).nox (defBody st) t /\ t { nx:=fun _ H'=>Q .non H',rt:=Q } (start N vs) H):FnOk P w K mg base CX0 (k+1) f fd ps sp:=by
 obtain ⟨oc,od,kV,doc,pm,an,cdv,ct,osl,rfl,lk,hcd⟩:=F.ex
 have e:cdv=.ref c:=hc
 subst e
 refine fn_of lk hcd S len fun A outer s H vs Q E hr hsp=>?_
 obtain ⟨t,h,q⟩:=hbody A outer s H vs Q E hr hsp
 exact ⟨t,h.nox,q⟩
theorem ctr_ofC{P:Program}{w:World}{K:PySem.W.Frag}{mg:Str->Option Value}{base:Heap}{CX:CXT}{k:Nat}{x:Str}{st:Stmt}{ps:List Str}{sp:Sp}{c Pt:Addr}(F:LmT K mg x st ps c Pt)
  (h:∀ f fd,Fun K x x st f fd->fd.code=.ref c->FnOk P w K mg base CX k f fd ps sp):Ctr P w K mg base CX k x ps sp:=by
 obtain ⟨f,fd,F,hm,hb,hc⟩:=F.ex
 exact ⟨f,fd,h f fd F hc,hm,F.kp,hb⟩
end L2
namespace My
open PySem L2 PyProof.Rows
theorem cutV_last(xs:List V):cutV xs (some (-1)) none=xs.drop (xs.length - 1):=by
 unfold cutV
 have e:HT.sIx xs.length 0 (some (-1))=xs.length - 1:=by
  show (if (-1:Int) < 0 then ((-1:Int)+(xs.length:Int)).toNat else min (-1:Int).toNat xs.length)=_
  rw [if_pos (by decide)]
  omega
 rw [e,HT.sIx_none,List.take_of_length_le (by simp)]
theorem drop_last{α:Type}:∀ (l:List α),l.drop (l.length - 1)=l.getLast?.toList
 | []=>rfl
 | [a]=>rfl
 | a :: b :: r=>by
  have:=drop_last (b :: r)
  rw [List.getLast?_cons_cons]
  rw [<- this]
  simp
theorem last_is{c:List Nat}{w:Nat}:(c.getLast?.toList.map fun (p:Nat)=>(p:Int))=[(w:Int)]↔c.getLast?=some w:=by
 cases c.getLast? with
 | none=>simp
 | some v=>
  simp only [Option.toList_some,List.map_cons,List.map_nil,Option.some.injEq]
  constructor
  ·intro h
   have:=(List.cons.inj h).1
   omega
  ·rintro rfl
   rfl
abbrev ordV(ord:List Nat):List V:=ord.map fun (p:Nat)=>V.int (p:Int)
theorem nats_ints(c:List Nat):ordV c=(c.map fun (p:Nat)=>(p:Int)).map V.int:=by rw [List.map_map];rfl
theorem MovesAt.put{H:Hp}{mv a:Addr}{ms:List Yd.Mv}{o:HO}(h:MovesAt H mv ms)(hne:mv≠a)(hk:∀ xs,H a≠some (.tup xs)):MovesAt (upd H a o) mv ms:=by
 obtain ⟨rs,e,p⟩:=h
 refine ⟨rs,by rw [upd_ne hne];exact e,Paired.imp (fun r m z=>?_) p⟩
 unfold MvT at z ⊢
 rw [upd_ne (fun w=>hk _ (w ▸ z))]
 exact z
end My
namespace My
theorem pairwise_up:∀ {l:List Nat},(∀ (k a b:Nat),l[k]?=some a->l[k+1]?=some b->a < b)->l.Pairwise (· < ·)
 | [],_=>.nil
 | [a],_=>by simp
 | a :: b :: r,h=>by
  have ih:=pairwise_up (l:=b :: r) fun k x y h1 h2=>h (k+1) x y (by simpa using h1) (by simpa using h2)
  rw [List.pairwise_cons]
  have hab:=h 0 a b rfl rfl
  refine ⟨fun x hx=>?_,ih⟩
  rcases List.mem_cons.mp hx with rfl | hx
  ·exact hab
  ·exact Nat.lt_trans hab ((List.pairwise_cons.mp ih).1 x hx)
theorem outs_len{ord trk:List Nat}{s s':Sh.S}(h:Sh.Outs ord trk s s'):s'.mv.length+s.gone=s.mv.length+s'.gone:=by
 induction h with
 | refl=>rfl
 | step _ e ih=>
  unfold Sh.out at e
  split at e
  ·cases e
  ·split at e
   ·cases e
    show (_++[_]).length+_=_+(_+1)
    rw [List.length_append]
    simp only [List.length_cons,List.length_nil]
    omega
   ·cases e
end My
namespace My
def mx(l:List Nat):Int:=l.foldl (fun m (p:Nat)=>if (p:Int) > m then (p:Int) else m) (-1)
theorem mx_snoc(l:List Nat)(p:Nat):mx (l++[p])=if (p:Int) > mx l then (p:Int) else mx l:=by unfold mx;rw [List.foldl_append];rfl
theorem mx_go:∀ (l:List Nat) (m:Int),m <= l.foldl (fun m (p:Nat)=>if (p:Int) > m then (p:Int) else m) m /\ (∀ p∈l,(p:Int) <= l.foldl (fun m (p:Nat)=>if (p:Int) > m then (p:Int) else m) m) /\
  (l.foldl (fun m (p:Nat)=>if (p:Int) > m then (p:Int) else m) m=m \/ ∃ p∈l,l.foldl (fun m (p:Nat)=>if (p:Int) > m then (p:Int) else m) m=(p:Int))
 | [],m=>⟨Int.le_refl _,fun p hp=>(by cases hp),.inl rfl⟩
 | a :: r,m=>by
  have ih:=mx_go r (if (a:Int) > m then (a:Int) else m)
  rw [List.foldl_cons]
  obtain ⟨h1,h2,h3⟩:=ih
  have ha:(a:Int) <= (if (a:Int) > m then (a:Int) else m) /\ m <= (if (a:Int) > m then (a:Int) else m):=by split<;>omega
  refine ⟨Int.le_trans ha.2 h1,fun p hp=>?_,?_⟩
  ·rcases List.mem_cons.mp hp with rfl | hp
   ·exact Int.le_trans ha.1 h1
   ·exact h2 p hp
  ·rcases h3 with h3 | ⟨p,hp,e⟩
   ·rw [h3]
    split
    ·exact .inr ⟨a,List.mem_cons_self,rfl⟩
    ·exact .inl rfl
   ·exact .inr ⟨p,List.mem_cons_of_mem _ hp,e⟩
theorem mx_max{l:List Nat}{p:Nat}(h:p∈l):(p:Int) <= mx l:=(mx_go l (-1)).2.1 p h
theorem mx_mem{l:List Nat}{p:Nat}(h:p∈l):∃ q∈l,mx l=(q:Int):=by
 rcases (mx_go l (-1)).2.2 with e | e
 ·have:=mx_max h
  have e':mx l=-1:=e
  omega
 ·exact e
end My
namespace My
end My
namespace My
open PySem L2
def leftB(T:List Int)(b:Bool)(n:Nat)(ms:List Yd.Mv)(W:List Int):Bool:=match Yd.steps T b (Yd.init n) ms with
 | some st=>decide (st.left=W)
 | none=>false
theorem leftB_shunt{T ns:List Int}{b:Bool}{n:Nat}{ms:List Yd.Mv}(hT:T.Nodup)(hm:∀ m∈ms,m.2 < n)(hp:ns.Perm T)(hs:ns.Pairwise (· <= ·)):leftB T b n ms ns=shuntB T b n (ms.map gOf):=by
 unfold leftB
 cases e:Yd.steps T b (Yd.init n) ms with
 | none=>exact (left_none (by rw [gsteps_of hm];exact e)).symm
 | some st=>
  have:=left_sorted hT (by rw [gsteps_of hm];exact e) hp hs
  show decide (st.left=ns)=_
  rw [Bool.eq_iff_iff,decide_eq_true_iff]
  exact this
theorem run_mv_lt{ord trk:List Nat}{many n i:Nat}{s:Sh.S}(ht:∀ p,p < n->trk.getD p 0 < many)(hO:Sh.Ord ord n)(h:Sh.Run ord trk many i s)(hi:i <= n):∀ m∈s.mv,m.2 < many:=by
 have outs:∀ {a b:Sh.S},Sh.Outs ord trk a b->(∀ m∈a.mv,m.2 < many)->∀ m∈b.mv,m.2 < many:=by
  intro a b o
  induction o with
  | refl=>exact fun h=>h
  | step _ e ih=>
   intro h m hm
   unfold Sh.out at e
   split at e
   ·cases e
   ·rename_i w ew
    split at e
    ·cases e
     rcases List.mem_append.mp hm with z | z
     ·exact ih h m z
     ·rw [List.mem_singleton.mp z]
      exact ht w (hO.lt ew)
    ·cases e
 induction h with
 | zero=>intro m hm;cases hm
 | @succ i s s' h o _ ih=>
  refine outs o fun m hm=>?_
  rcases List.mem_append.mp hm with z | z
  ·exact ih (by omega) m z
  ·rw [List.mem_singleton.mp z]
   exact ht i (by omega)
theorem run_brings{T:List Int}{ord trk:List Nat}{many n:Nat}{s:Sh.S}(hT:T.Nodup)(hr:Rank T ord)(hn:T.length=n)(ht:∀ p,p < n->trk.getD p 0 < many)(h:Sh.Run ord trk many n s)(hg:s.gone=ord.length):shuntB T true many (s.mv.map gOf)=true:=by
 have hO:Sh.Ord ord n:=hn ▸ hr.ord
 have hst:=Sh.yd_run (T:=T) (n:=n) h (by omega)
 have hlt:=run_mv_lt ht hO h (Nat.le_refl _)
 rw [<- leftB_shunt (ns:=(ord.map fun p=>T.getD p 0)) hT hlt ?_ ?_]
 ·unfold leftB
  rw [hst]
  show decide ((Sh.yst T ord s n).left=_)=true
  refine decide_eq_true ?_
  show (ord.take s.gone).map _=_
  rw [hg,List.take_length]
 ·have h1:=hr.perm.map fun p=>T.getD p 0
  have h2:(List.range T.length).map (fun p=>T.getD p 0)=T:=by
   refine List.ext_getElem? fun i=>?_
   rw [List.getElem?_map]
   by_cases hi:i < T.length
   ·rw [List.getElem?_range hi,List.getElem?_eq_getElem hi]
    show some (T.getD i 0)=_
    rw [List.getD_eq_getElem?_getD,List.getElem?_eq_getElem hi]
    rfl
   ·rw [List.getElem?_eq_none_iff.mpr (by rw [List.length_range];omega),List.getElem?_eq_none_iff.mpr (by omega)]
    rfl
  rw [h2] at h1
  exact h1
 ·rw [List.pairwise_map]
  exact hr.up
end My
namespace My
open PySem L2 PyProof.Rows
theorem small1000'{n:Nat}(h:n <= 100000):n < sizeLine:=by rw [sizeLine_eq];omega
end My
namespace My
end My
namespace Thr
theorem snoc_get{α:Type}{l:List α}{a x:α}{i:Nat}(e:(l++[a])[i]?=some x):(i < l.length /\ l[i]?=some x) \/ (i=l.length /\ x=a):=by
 rw [List.getElem?_append] at e
 split at e
 ·exact .inl ⟨by omega,e⟩
 ·cases q:i - l.length with
  | zero=>rw [q] at e;exact .inr ⟨by omega,(Option.some.inj e).symm⟩
  | succ d=>rw [q] at e;simp at e
end Thr
namespace PySem
namespace F
theorem nolen_lri:typeLookup (.type "list_reverseiterator") "__len__"=pure none:=by
 rw [typeLookup_type,builtinLookup_eq_fast];kernel_rfl
theorem hint_lri:typeLookup (.type "list_reverseiterator") "__length_hint__"=pure (some (.builtin "list_reverseiterator.__length_hint__")):=by
 rw [typeLookup_type,builtinLookup_eq_fast];kernel_rfl
end F
section
variable {prog:Program} {w:World} {A:Around} {s:Shared} {R:Result->Shared->Prop} {I:Addr} {fp wr:List Addr} {G:Array GenState->Array GenState->Prop} {n:Nat} {P:Nat->Value->Prop} {St:Nat->Shared->Prop}
theorem ext_rev (W:WalksS prog w A.in1 I fp wr G n P St) (hT:∀ i s,St i s->s.TypeIs (.ref I) "list_reverseiterator") (S:Addr) (res:Value) (c₀:Nat) (hst:St 0 s) (hSf:S∉fp) (hI:I∈fp)
  (hS:s.heap.get? S=some { cls:=.type "list",data:=.seq #[] c₀ })
  (hR:∀ s' acc' c',Moved (S :: wr) G s s'->s'.heap.get? S=some { cls:=.type "list",dict:=none,data:=.seq acc' c',slots:=#[] }->ItemsOf P acc' n->R (.ok (.ret res)) s') (hn:n <= sizeLine):
  wpAny (model prog w) A.in1 (Builtin.List.listExtendWith (.ref S) (.ref I) res)
   (fun z s'=>match z with | .done f=>R (.ok f) s' | .again c'=>c'.quiet=true /\ codeAny (model prog w) A c' R s') (fun e s'=>R (.error e) s') s:=by
 have hne:S≠I:=fun e=>hSf (e ▸ hI)
 unfold Builtin.List.listExtendWith
 refine wpAny_bind (wpAny_typeOf (T := "list_reverseiterator") (hT 0 _ hst) ?_)
 have k1:Builtin.List.listSameRef (.ref S) (.ref I)=false:=by
  simp [Builtin.List.listSameRef,hne]
 have k2:(Value.type "list_reverseiterator"==Value.type "list")=false:=by decide
 have k3:(Value.type "list_reverseiterator"==Value.type "tuple")=false:=by decide
 simp only [k1,k2,k3,Bool.or_false,Bool.false_eq_true,if_false]
 refine wpAny_bind
  (W.self 0 _ _ _ hst ?_)
 refine wpAny_bind
  (wpAny_holding ?_)
 unfold Builtin.List.listLengthHint
 refine wpAny_bind
  (wpAny_specialOf (hT 0 _ hst) F.nolen_lri ?_)
 show wpAny _ A.in1
  (specialOf (Value.ref I) (Str.ofString "__length_hint__") >>= _) _ _ _
 refine wpAny_bind
  (wpAny_specialOf (hT 0 _ hst) F.hint_lri ?_)
 (generalize hid:("list_reverseiterator.__length_hint__":String)=id0;(fail_if_success (clear hid id0));wp_delta;rw [show splitId id0=some ("list_reverseiterator", "__length_hint__") from by subst hid;decide +kernel];subst hid)
 refine wpAny_bind
  (wpAny_isInstance (b:=true) (hT 0 _ hst) (by rw [isSubtype_type];kernel_rfl) ?_)
 refine wpAny_pure ?_
 rw [if_neg (by decide)]
 refine wpAny_pure
  ⟨plainId_quiet F.plain_extend_loop _,codeAny_extend_loopS W hn _ hSf _ n 0 _ _ _ rfl (Nat.zero_le _) hst hS (ItemsOf.nil P) fun s' acc' c' hm hS' hacc=>?_⟩
 exact hR s' acc' c' hm hS' hacc
end
section
variable {prog:Program} {w:World} {A:Around} {E:Value->Shared->Prop} {s:Shared} {I:Addr} {fp wr:List Addr} {G:Array GenState->Array GenState->Prop} {n:Nat} {P:Nat->Value->Prop} {St:Nat->Shared->Prop}
theorem list_rev {Q:Value->Shared->Prop} (W:WalksS prog w A.in1.in1 I fp wr G n P St) (hT:∀ i s,St i s->s.TypeIs (.ref I) "list_reverseiterator") (hst:St 0 s) (hfp:∀ b∈fp,b < s.heap.objs.size) (hI:I∈fp)
  (hQ:∀ s' acc' c',Moved (s.heap.objs.size :: wr) G { s with heap:=s.heap.push { cls:=.type "list",data:=.seq #[] } } s'->
   s'.heap.get? s.heap.objs.size=some { cls:=.type "list",dict:=none,data:=.seq acc' c',slots:=#[] }->ItemsOf P acc' n->Q (.ref s.heap.objs.size) s') (hn:n <= sizeLine):
  wpAny (model prog w) A (call (.type "list") [.ref I]) Q E s:=by
 have hnf:s.heap.objs.size∉fp:=fun hm=>Nat.lt_irrefl _ (hfp _ hm)
 refine callType_codes (Q₁:=fun ob s₁=>ob=.ref s.heap.objs.size /\ s₁={ s with heap:=s.heap.push { cls:=.type "list",data:=.seq #[] } }) F.called_list (F.typeCall_list_1 _) F.entry_list_init
  (code_list_new _ ⟨rfl,rfl⟩) fun ob s₁ h₁=>?_
 obtain ⟨rfl,rfl⟩:=h₁
 have hS:(s.heap.push { cls:=.type "list",data:=.seq #[] }).get? s.heap.objs.size=some { cls:=.type "list",data:=.seq #[] }:=
  Heap.get?_push_size _ rfl
 refine ⟨⟨_,hS,rfl⟩,F.args_list_init_2 _ _,?_⟩
 show wpAny _ A.in1.in1 (do let old <- Builtin.List.listItems (.ref s.heap.objs.size);Builtin.List.listUpdate (.ref s.heap.objs.size) (fun _=>#[]);letGo old.toList.reverse;Builtin.List.listExtendWith (.ref s.heap.objs.size) (.ref I) .none) _ _ _
 refine wpAny_bind ?_
 unfold Builtin.List.listItems
 refine wpAny_bind
  (wpAny_seqItems hS rfl (wpAny_pure ?_))
 show wpAny _ _ (updateSeq s.heap.objs.size (fun _=>#[]) >>= fun _=>letGo (#[]:Array Value).toList.reverse >>= fun _=>Builtin.List.listExtendWith (.ref s.heap.objs.size) (.ref I) .none) _ _ _
 refine wpAny_bind
  (wpAny_updateSeq hS rfl ?_)
 have hS2:=Heap.get?_update_self (Obj.mapSeq (fun _=>(#[]:Array Value))) hS rfl
 have oth:∀ b o,b≠s.heap.objs.size->(s.heap.push { cls:=.type "list",data:=.seq #[] }).get? b=some o->((s.heap.push { cls:=.type "list",data:=.seq #[] }).update s.heap.objs.size (Obj.mapSeq (fun _=>(#[]:Array Value)))).get? b=some o:=
  fun b o hb e=>(Heap.get?_update_other _ _ (Ne.symm hb)).trans e
 refine wpAny_bind (wpAny_letGo ?_)
 have st1:=W.frame 0 s (s.heap.push { cls:=.type "list",data:=.seq #[] }) s.toks hst (Nat.le_refl _) fun b _ o e=>Heap.get?_push_of_some _ e
 have st2:=W.frame 0 _ ((s.heap.push { cls:=.type "list",data:=.seq #[] }).update s.heap.objs.size (Obj.mapSeq (fun _=>(#[]:Array Value)))) s.toks st1 (Nat.le_refl _) fun b hb o e=>oth b o (fun h=>hnf (h ▸ hb)) e
 refine ext_rev (A:=A.in1) W hT s.heap.objs.size .none _ st2 hnf hI hS2 (fun s' acc' c' hm hS' hacc=>?_) hn
 exact ⟨rfl,hQ s' acc' c' (Moved.trans W.gtrans ((Moved.refl W.grefl).then_heap (Nat.le_refl _) fun b o hb e=>oth b o (fun h=>hb (h ▸ List.mem_cons_self)) e) hm) hS' hacc⟩
end
end PySem
namespace L2
open PySem PySem.Spec PyProof.Rows
section
variable {X:Cx} {te:TE} {e:Expr} {tg:Expr}
def RB(Q:VK)(v:V)(H1:Hp):Prop:=∃ a ys,v=.ref a /\ H1 a=some (.lst ys) /\ ∀ l,H1 l=none->Q (.ref l) (upd H1 l (.lst ys.reverse))
def tListRev(te:TE):TE:=fun σ H Q=>te σ H (RB Q)
theorem vals_rev:∀ {ys:List V} {us:List Value},Vals ys us->Vals ys.reverse us.reverse
 | _,_,.nil=>.nil
 | y :: ys,u :: us,.cons h t=>by
  rw [List.reverse_cons,List.reverse_cons]
  exact (vals_rev t).append (.cons h .nil)
theorem pe_listRev {p1 p2 pos1 pos2:Pos} (he:PE X e te) (hc:X.calm=true) (hgL:Gl X "list") (hmL:X.mg "list"=none) (hgR:Gl X "reversed") (hmR:X.mg "reversed"=none)
  (hst:starEach [e] X.env=(false,eval e X.env) :: starEach [] X.env:=by rfl):PE X (.Call (.Name "list" p1) [.Call (.Name "reversed" p2) [e] [] pos2] [] pos1) (tListRev te):=by
 intro pins s σ H Q I h
 refine wpAny_Call_Name_kw (ld_blt I hgL hmL (u:=.type "list") (by decide +kernel) ?_)
 refine PyProof.Rows.callWith_type1 ?_ rfl rfl
 show wpAny _ _ (spliced ((false,eval (.Call (.Name "reversed" p2) [e] [] pos2) X.env) :: backTo pos1 (starEach [] X.env))) _ _ s
 refine Calls.spliced_cons ?_
 refine wpAny_Call_Name_kw (ld_blt I hgR hmR (u:=.type "reversed") (by decide +kernel) ?_)
 have pa:PA X [e] (tCons te tNil):=pa_cons he pa_nil hst
 refine PyProof.Rows.callWith_type1 (thn (pa pos2 pins s σ H (fun vs H1=>match vs with | [v]=>RB Q v H1 | _=>False) I h) fun us s1 ⟨vs,H1,I1,r1,q1⟩=>?_) hst rfl
 match vs,us,r1,q1 with
 | [_],_,.cons rr .nil,⟨a,ys,ev,hys,q⟩=>
  subst ev
  cases (show _=Value.ref a from rr)
  obtain ⟨its,n',rv,ho,hz⟩:=I1.lst hys
  have hl:s1.heap.IsList a its.toArray:=⟨_,ho,rfl,n',rfl⟩
  have hln:its.length=ys.length:=rv.length.symm
  refine call_reversed_list hl ?_
  refine Calls.spliced_nil ?_
  have hlt:a < s1.heap.objs.size:=Heap.lt_size ho
  have W:=(Walks.listRev (prog:=X.prog) (w:=X.w) (A:=X.A.in1.in1) (I.ok.hd hc) s1.heap.objs.size a (Nat.ne_of_lt hlt) its.toArray).toS
  refine list_rev W (fun i s' st=>st.2.1.typeIs) ⟨Nat.zero_le _,?_,?_⟩ (fun b hb=>?_) (by simp) (fun s' acc c' hm hS' hacc=>?_) (by rw [List.size_toArray,hln];exact hz)
  ·refine ⟨_,Heap.get?_push_size _ rfl,rfl,?_⟩
   show Data.fields #[_,_]=_
   congr 3
   simp
  ·exact ⟨_,Heap.get?_push_of_some _ ho,rfl,n',rfl⟩
  ·show b < (s1.heap.push _).objs.size
   rw [Heap.size_push]
   simp only [List.mem_cons,List.mem_nil_iff,or_false] at hb
   rcases hb with rfl | rfl
   ·exact Nat.lt_succ_self _
   ·exact Nat.lt_succ_of_lt hlt
  ·have hsz:(s1.heap.push (revObj a ((its.toArray.size:Int) - 1))).objs.size=s1.heap.objs.size+1:=by rw [Heap.size_push]
   have keep:∀ b o,s1.heap.get? b=some o->s'.heap.get? b=some o:=fun b o z=>by
    refine hm.heap b o (fun hmem=>?_) (Heap.get?_push_of_some _ (Heap.get?_push_of_some _ z))
    have hb:=Heap.lt_size z
    rcases List.mem_cons.mp hmem with w' | w'
    ·rw [w'] at hb
     exact absurd hb (by show ¬ (s1.heap.push _).objs.size < _;rw [hsz];exact Nat.not_lt.mpr (Nat.le_succ _))
    ·rw [List.mem_singleton.mp w'] at hb
     exact Nat.lt_irrefl _ hb
   rw [Moved.eq_with hm] at hS' ⊢
   have hf:H1 (s1.heap.objs.size+1)=none:=I1.hok.fresh (Nat.le_succ _)
   have hacl:acc.toList=its.reverse:=by
    refine List.ext_getElem? fun j=>?_
    by_cases hj:j < its.length
    ·have hjs:j < acc.size:=by rw [hacc.1,List.size_toArray];exact hj
     have hv:=hacc.2 j acc[j] (Array.getElem?_eq_getElem hjs)
     rw [List.getElem?_reverse hj]
     have hv':its.toArray[its.toArray.size - 1 - j]?=some acc[j]:=hv
     rw [List.getElem?_toArray,List.size_toArray] at hv'
     rw [hv']
     simp [hjs]
    ·rw [List.getElem?_eq_none_iff.mpr (by rw [Array.length_toList,hacc.1,List.size_toArray];omega),List.getElem?_eq_none_iff.mpr (by rw [List.length_reverse];omega)]
   show EP X pins σ Q (.ref (s1.heap.push (revObj a ((its.toArray.size:Int) - 1))).objs.size) _
   rw [hsz] at hS' ⊢
   refine ⟨.ref (s1.heap.objs.size+1),_,I1.laid (t':=s'.toks) (a:=s1.heap.objs.size+1) (o:=.lst ys.reverse) keep (Nat.le_succ _) ⟨by rw [List.length_reverse];exact hz,acc.toList,c',by rw [hacl];exact vals_rev rv,by simpa using hS'⟩,rfl,q _ hf⟩
end
end L2
namespace PyProof.Rows
set_option autoImplicit false
open PySem
def gallop':Bool->Keyed->Array Keyed->Nat->Nat->Nat->StateT SortSt Sem (Option Nat):=sortPriv% PySem.Builtin.gallop
section
variable {prog:Program} {w:World} {A:Around} {E:Value->Shared->Prop} {s:Shared}
theorem wpS_ltV{st:SortSt}{a b:Int}{t u:Tok}{p q:Value}{Q:Option Bool->SortSt->Prop}(hk:kindOf st=oneType')
  (h:Q (some (decide (a < b))) st):wpS (model prog w) A E s (lt' (.int a t,p) (.int b u,q)) Q st:=by
 rw [lt'_eq]
 refine wpS_bind (wpS_get ?_)
 rw [hk,keyLt'_oneType]
 refine wpS_bind (wpS_lift (wpAny_attempt (oneLt_int ⟨rfl,?_⟩)))
 exact wpS_pure h
theorem IntKeys.at{xs:Array Keyed}(h0:IntKeys xs){i:Nat}(hi:i < xs.size):
  ∃ t q,xs[i]?=some (.int (K xs i) t,q):=by
 have e:xs[i]?=some xs[i]:=getElem?_pos _ i hi
 obtain ⟨n,t,hn⟩:=h0 xs[i] (by simp)
 refine ⟨t,xs[i].2,?_⟩
 have e2:xs[i]=(.int n t,xs[i].2):=Prod.ext hn rfl
 unfold K
 rw [e,e2]
 rfl
theorem wpS_elem{st:SortSt}{xs:Array Keyed}{i:Nat}{p:Keyed}{Q:Keyed->SortSt->Prop}(e:xs[i]?=some p)(h:Q p st):
  wpS (model prog w) A E s (elem' xs i) Q st:=by
 rw [elem'_eq,e];exact wpS_pure h
def sogB(left:Bool)(k x:Int):Bool:=if left then decide (x < k) else !decide (k < x)
theorem wpS_beyond{st:SortSt}{left:Bool}{a:Int}{t:Tok}{p:Value}{xs:Array Keyed}{i:Nat}{Q:Option Bool->SortSt->Prop}
  (hk:kindOf st=oneType') (h0:IntKeys xs) (hi:i < xs.size) (h:Q (some (sogB left a (K xs i))) st):
  wpS (model prog w) A E s (do
   let x <- elem' xs i
   if left then lt' x (.int a t,p) else return (<- lt' (.int a t,p) x).map (!·)) Q st:=by
 obtain ⟨u,q,e⟩:=h0.at hi
 refine wpS_bind (wpS_elem e ?_)
 cases left
 ·simp only [Bool.false_eq_true,if_false]
  refine wpS_bind (wpS_ltV hk (wpS_pure ?_))
  simpa [sogB] using h
 ·simp only [if_true]
  refine wpS_ltV hk ?_
  simpa [sogB] using h
theorem wpS_gallop{st:SortSt}{left:Bool}{a:Int}{t:Tok}{p:Value}{xs:Array Keyed}{base n hint:Nat}{Q:Option Nat->SortSt->Prop}
  (hk:kindOf st=oneType') (h0:IntKeys xs) (hn:base+n <= xs.size) (hh:hint < n)
  (hs:∀ i j,i <= j->j < n->K xs (base+i) <= K xs (base+j))
  (h:∀ k,k <= n->(∀ i,i < k->sogB left a (K xs (base+i))=true)->(∀ i,k <= i->i < n->sogB left a (K xs (base+i))=false)->Q (some k) st):
  wpS (model prog w) A E s (gallop' left (.int a t,p) xs base n hint) Q st:=by
 have mono:∀ i j,i <= j->j < n->sogB left a (K xs (base+j))=true->sogB left a (K xs (base+i))=true:=by
  intro i j hij hj hb
  have:=hs i j hij hj
  unfold sogB at hb ⊢
  cases left<;>simp at hb ⊢<;>omega
 have mono':∀ i j,i <= j->j < n->sogB left a (K xs (base+i))=false->sogB left a (K xs (base+j))=false:=by
  intro i j hij hj hb
  cases hc:sogB left a (K xs (base+j))
  ·rfl
  ·rw [mono i j hij hj hc] at hb;cases hb
 refine wpS_bind (wpS_beyond hk h0 (i:=base+hint) (by omega) ?_)
 dsimp only
 cases hr:sogB left a (K xs (base+hint))
 ·simp only [Bool.false_eq_true,if_false]
  refine wpS_bind (wpS_mono (wpS_forRange
   (I:=fun x c st'=>st'=st /\ ∃ l o,c=(none,l,o) /\ l < o /\ x < o /\ l <= hint /\ sogB left a (K xs (base+(hint - l)))=false)
   (Q:=fun c st'=>st'=st /\ ∃ l o,c=(none,l,o) /\ l < o /\ l <= hint /\ sogB left a (K xs (base+(hint - l)))=false /\
    (hint+1 <= o \/ sogB left a (K xs (base+(hint - o)))=true)) ?step ?fin ?init) ?post)
  case init=>exact ⟨rfl,0,1,rfl,by omega,by omega,by omega,by simpa using hr⟩
  case fin=>
   rintro c st' ⟨rfl,l,o,rfl,h1,h2,h3,h4⟩
   exact ⟨rfl,l,o,rfl,h1,h3,h4,.inl (by omega)⟩
  case step=>
   rintro x c st' _ hx ⟨rfl,l,o,rfl,h1,h2,h3,h4⟩
   dsimp only
   by_cases hge:o >= hint+1
   ·rw [if_pos hge]
    exact wpS_pure ⟨rfl,l,o,rfl,h1,h3,h4,.inl hge⟩
   ·rw [if_neg hge]
    refine wpS_bind (wpS_beyond hk h0 (by omega) ?_)
    dsimp only
    cases hm:sogB left a (K xs (base+(hint - o)))
    ·simp only [Bool.false_eq_true,if_false]
     exact wpS_pure ⟨rfl,o,2*o+1,rfl,by omega,by omega,by omega,hm⟩
    ·simp only [if_true]
     exact wpS_pure ⟨rfl,l,o,rfl,h1,h3,h4,.inr hm⟩
  case post=>
   rintro c st' ⟨rfl,l,o,rfl,h1,h3,h4,h5⟩
   dsimp only
   have e1:hint+1 - min o (hint+1) <= hint - l:=by omega
   have e2:hint - l <= n:=by omega
   have e3:∀ i,i < hint+1 - min o (hint+1)->sogB left a (K xs (base+i))=true:=by
    intro i hi
    rcases h5 with h5 | h5
    ·omega
    ·exact mono i (hint - o) (by omega) (by omega) h5
   have e4:∀ i,hint - l <= i->i < n->sogB left a (K xs (base+i))=false:=fun i h1 h2=>mono' _ _ h1 h2 h4
   generalize hint+1 - min o (hint+1)=lo at e1 e3 ⊢
   generalize hint - l=hi at e1 e2 e4 ⊢
   refine wpS_bind (wpS_mono (wpS_forRange
     (I:=fun x c st''=>st''=st' /\ ∃ lo hi,c=(none,lo,hi) /\ lo <= hi /\ hi <= n /\ hi - lo <= n - x /\ (∀ i,i < lo->sogB left a (K xs (base+i))=true) /\
      (∀ i,hi <= i->i < n->sogB left a (K xs (base+i))=false))
     (Q:=fun c st''=>st''=st' /\ ∃ lo hi,c=(none,lo,hi) /\ hi <= n /\ (∀ i,i < hi->sogB left a (K xs (base+i))=true) /\
      (∀ i,hi <= i->i < n->sogB left a (K xs (base+i))=false)) ?gstep ?gfin ⟨rfl,lo,hi,rfl,e1,e2,by omega,e3,e4⟩) ?gpost)
   case gfin=>
    rintro c st'' ⟨rfl,lo,hi,rfl,h1,h2,h3,h4,h5⟩
    have:lo=hi:=by omega
    subst this
    exact ⟨rfl,lo,lo,rfl,h2,h4,h5⟩
   case gpost=>
    rintro c st'' ⟨rfl,lo,hi,rfl,h2,h4,h5⟩
    exact wpS_pure (h hi h2 h4 h5)
   case gstep=>
    rintro x c st'' _ hx ⟨rfl,lo,hi,rfl,h1,h2,h3,h4,h5⟩
    dsimp only
    by_cases hge:lo >= hi
    ·rw [if_pos hge]
     have:lo=hi:=by omega
     subst this
     exact wpS_pure ⟨rfl,lo,lo,rfl,h2,h4,h5⟩
    ·rw [if_neg hge]
     refine wpS_bind (wpS_beyond hk h0 (by omega) ?_)
     dsimp only
     cases hm:sogB left a (K xs (base+(lo+(hi - lo) / 2)))
     ·simp only [Bool.false_eq_true,if_false]
      exact wpS_pure ⟨rfl,lo,lo+(hi - lo) / 2,rfl,by omega,by omega,by omega,h4,fun i h6 h7=>mono' _ _ h6 h7 hm⟩
     ·simp only [if_true]
      exact wpS_pure ⟨rfl,lo+(hi - lo) / 2+1,hi,rfl,by omega,by omega,by omega,fun i h6=>mono i (lo+(hi - lo) / 2) (by omega) (by omega) hm,h5⟩
 ·simp only [if_true]
  refine wpS_bind (wpS_mono (wpS_forRange
   (I:=fun x c st'=>st'=st /\ ∃ l o,c=(none,l,o) /\ l < o /\ x < o /\ hint+l < n /\ sogB left a (K xs (base+(hint+l)))=true)
   (Q:=fun c st'=>st'=st /\ ∃ l o,c=(none,l,o) /\ l < o /\ hint+l < n /\ sogB left a (K xs (base+(hint+l)))=true /\
    (n - hint <= o \/ sogB left a (K xs (base+(hint+o)))=false)) ?step ?fin ?init) ?post)
  case init=>exact ⟨rfl,0,1,rfl,by omega,by omega,by omega,by simpa using hr⟩
  case fin=>
   rintro c st' ⟨rfl,l,o,rfl,h1,h2,h3,h4⟩
   exact ⟨rfl,l,o,rfl,h1,h3,h4,.inl (by omega)⟩
  case step=>
   rintro x c st' _ hx ⟨rfl,l,o,rfl,h1,h2,h3,h4⟩
   dsimp only
   by_cases hge:o >= n - hint
   ·rw [if_pos hge]
    exact wpS_pure ⟨rfl,l,o,rfl,h1,h3,h4,.inl hge⟩
   ·rw [if_neg hge]
    refine wpS_bind (wpS_beyond hk h0 (by omega) ?_)
    dsimp only
    cases hm:sogB left a (K xs (base+(hint+o)))
    ·simp only [Bool.not_false,if_true]
     exact wpS_pure ⟨rfl,l,o,rfl,h1,h3,h4,.inr hm⟩
    ·simp only [Bool.not_true,Bool.false_eq_true,if_false]
     exact wpS_pure ⟨rfl,o,2*o+1,rfl,by omega,by omega,by omega,hm⟩
  case post=>
   rintro c st' ⟨rfl,l,o,rfl,h1,h3,h4,h5⟩
   dsimp only
   have e1:hint+l+1 <= hint+min o (n - hint):=by omega
   have e2:hint+min o (n - hint) <= n:=by omega
   have e3:∀ i,i < hint+l+1->sogB left a (K xs (base+i))=true:=fun i hi=>mono i (hint+l) (by omega) h3 h4
   have e4:∀ i,hint+min o (n - hint) <= i->i < n->sogB left a (K xs (base+i))=false:=by
    intro i h1 h2
    rcases h5 with h5 | h5
    ·omega
    ·exact mono' (hint+o) i (by omega) h2 h5
   generalize hint+l+1=lo at e1 e3 ⊢
   generalize hint+min o (n - hint)=hi at e1 e2 e4 ⊢
   refine wpS_bind (wpS_mono (wpS_forRange
     (I:=fun x c st''=>st''=st' /\ ∃ lo hi,c=(none,lo,hi) /\ lo <= hi /\ hi <= n /\ hi - lo <= n - x /\ (∀ i,i < lo->sogB left a (K xs (base+i))=true) /\
      (∀ i,hi <= i->i < n->sogB left a (K xs (base+i))=false))
     (Q:=fun c st''=>st''=st' /\ ∃ lo hi,c=(none,lo,hi) /\ hi <= n /\ (∀ i,i < hi->sogB left a (K xs (base+i))=true) /\
      (∀ i,hi <= i->i < n->sogB left a (K xs (base+i))=false)) ?gstep ?gfin ⟨rfl,lo,hi,rfl,e1,e2,by omega,e3,e4⟩) ?gpost)
   case gfin=>
    rintro c st'' ⟨rfl,lo,hi,rfl,h1,h2,h3,h4,h5⟩
    have:lo=hi:=by omega
    subst this
    exact ⟨rfl,lo,lo,rfl,h2,h4,h5⟩
   case gpost=>
    rintro c st'' ⟨rfl,lo,hi,rfl,h2,h4,h5⟩
    exact wpS_pure (h hi h2 h4 h5)
   case gstep=>
    rintro x c st'' _ hx ⟨rfl,lo,hi,rfl,h1,h2,h3,h4,h5⟩
    dsimp only
    by_cases hge:lo >= hi
    ·rw [if_pos hge]
     have:lo=hi:=by omega
     subst this
     exact wpS_pure ⟨rfl,lo,lo,rfl,h2,h4,h5⟩
    ·rw [if_neg hge]
     refine wpS_bind (wpS_beyond hk h0 (by omega) ?_)
     dsimp only
     cases hm:sogB left a (K xs (base+(lo+(hi - lo) / 2)))
     ·simp only [Bool.false_eq_true,if_false]
      exact wpS_pure ⟨rfl,lo,lo+(hi - lo) / 2,rfl,by omega,by omega,by omega,h4,fun i h6 h7=>mono' _ _ h6 h7 hm⟩
     ·simp only [if_true]
      exact wpS_pure ⟨rfl,lo+(hi - lo) / 2+1,hi,rfl,by omega,by omega,by omega,fun i h6=>mono i (lo+(hi - lo) / 2) (by omega) (by omega) hm,h5⟩
end
end PyProof.Rows
namespace PyProof.Rows
set_option autoImplicit false
open PySem
def sokv(p:Keyed):Int:=numOf p.1
def sokle(x y:Keyed):Prop:=sokv x <= sokv y
theorem SoK_of_lt{xs:Array Keyed}{i:Nat}(h:i < xs.size):K xs i=sokv xs[i]:=by
 unfold K sokv;rw [getElem?_pos xs i h]
structure SoLM(T out R S:List Keyed):Prop where
 perm:(out++R++S).Perm T
 so:out.Pairwise sokle
 sR:R.Pairwise sokle
 sS:S.Pairwise sokle
 oR:∀ x∈out,∀ y∈R,sokle x y
 oS:∀ x∈out,∀ y∈S,sokle x y
theorem SoLM.takeA{T out R1 R2 S:List Keyed}(h:SoLM T out (R1++R2) S)(hc:∀ x∈R1,∀ y∈S,sokle x y):SoLM T (out++R1) R2 S:=by
 obtain ⟨p,a,b,c,d,e⟩:=h
 rw [List.pairwise_append] at b
 refine ⟨by simpa [List.append_assoc] using p,List.pairwise_append.mpr ⟨a,b.1,fun x hx y hy=>d x hx y (List.mem_append_left _ hy)⟩,b.2.1,c,?_,?_⟩
 ·intro x hx y hy
  rcases List.mem_append.mp hx with hx | hx
  ·exact d x hx y (List.mem_append_right _ hy)
  ·exact b.2.2 x hx y hy
 ·intro x hx y hy
  rcases List.mem_append.mp hx with hx | hx
  ·exact e x hx y hy
  ·exact hc x hx y hy
theorem SoLM.flip{T out R S:List Keyed}(h:SoLM T out R S):SoLM T out S R:=by
 obtain ⟨p,a,b,c,d,e⟩:=h
 refine ⟨?_,a,c,b,e,d⟩
 refine List.Perm.trans ?_ p
 rw [List.append_assoc,List.append_assoc]
 exact List.Perm.append_left _ List.perm_append_comm
theorem SoLM.takeB{T out R S1 S2:List Keyed}(h:SoLM T out R (S1++S2))(hc:∀ x∈S1,∀ y∈R,sokle x y):SoLM T (out++S1) R S2:=
 (h.flip.takeA hc).flip
def SoGood(T:List Keyed)(r:Array Keyed):Prop:=r.toList.Perm T /\ r.toList.Pairwise sokle
def SoLMa(a b out:Array Keyed)(ia ib:Nat):Prop:=SoLM (a.toList++b.toList) out.toList (a.toList.drop ia) (b.toList.drop ib)
theorem sodrop_split{xs:Array Keyed}{i k:Nat}:xs.toList.drop i=(xs.extract i (i+k)).toList++xs.toList.drop (i+k):=by
 rw [Array.toList_extract,List.extract_eq_take_drop,Nat.add_sub_cancel_left,<- List.drop_drop,List.take_append_drop]
theorem somem_drop{xs:Array Keyed}{i:Nat}{y:Keyed}(h:y∈xs.toList.drop i):∃ j,i <= j /\ j < xs.size /\ sokv y=K xs j:=by
 obtain ⟨j,hj,e⟩:=List.getElem_of_mem h
 rw [List.length_drop,Array.length_toList] at hj
 refine ⟨i+j,by omega,by omega,?_⟩
 rw [SoK_of_lt (by omega),<- e]
 congr 1
 simp
theorem somem_extract{xs:Array Keyed}{i k:Nat}{y:Keyed}(h:y∈(xs.extract i k).toList):∃ j,i <= j /\ j < k /\ j < xs.size /\ sokv y=K xs j:=by
 obtain ⟨j,hj,e⟩:=List.getElem_of_mem h
 rw [Array.length_toList,Array.size_extract] at hj
 refine ⟨i+j,by omega,by omega,by omega,?_⟩
 rw [SoK_of_lt (by omega),<- e]
 congr 1
 simp
theorem SoLMa.blockA{a b out:Array Keyed}{ia ib k:Nat}(h:SoLMa a b out ia ib)
  (hc:∀ i j,ia <= i->i < ia+k->i < a.size->ib <= j->j < b.size->K a i <= K b j):SoLMa a b (out++a.extract ia (ia+k)) (ia+k) ib:=by
 unfold SoLMa at h ⊢
 rw [sodrop_split (k:=k)] at h
 rw [Array.toList_append]
 refine h.takeA fun x hx y hy=>?_
 obtain ⟨i,i1,i2,i3,e1⟩:=somem_extract hx
 obtain ⟨j,j1,j2,e2⟩:=somem_drop hy
 unfold sokle;rw [e1,e2]
 exact hc i j i1 i2 i3 j1 j2
theorem SoLMa.blockB{a b out:Array Keyed}{ia ib k:Nat}(h:SoLMa a b out ia ib)
  (hc:∀ i j,ia <= i->i < a.size->ib <= j->j < ib+k->j < b.size->K b j <= K a i):SoLMa a b (out++b.extract ib (ib+k)) ia (ib+k):=by
 unfold SoLMa at h ⊢
 rw [sodrop_split (xs:=b) (k:=k)] at h
 rw [Array.toList_append]
 refine h.takeB fun x hx y hy=>?_
 obtain ⟨j,i1,i2,i3,e1⟩:=somem_extract hx
 obtain ⟨i,j1,j2,e2⟩:=somem_drop hy
 unfold sokle;rw [e1,e2]
 exact hc i j j1 j2 i1 i2 i3
theorem soextract_one{xs:Array Keyed}{i:Nat}{x:Keyed}(e:xs[i]?=some x):xs.extract i (i+1)=#[x]:=by
 obtain ⟨h,e⟩:=Array.getElem?_eq_some_iff.mp e
 apply Array.ext
 ·simp;omega
 ·intro j h1 h2
  simp at h2
  subst h2
  simp [e]
theorem SoLMa.pushA{a b out:Array Keyed}{ia ib:Nat}{x:Keyed}(h:SoLMa a b out ia ib)(e:a[ia]?=some x)
  (hc:∀ j,ib <= j->j < b.size->K a ia <= K b j):SoLMa a b (out.push x) (ia+1) ib:=by
 have:=h.blockA (k:=1) fun i j h1 h2 h3 h4 h5=>by
  have:i=ia:=by omega
  subst this;exact hc j h4 h5
 rwa [soextract_one e,Array.append_singleton] at this
theorem SoLMa.pushB{a b out:Array Keyed}{ia ib:Nat}{x:Keyed}(h:SoLMa a b out ia ib)(e:b[ib]?=some x)
  (hc:∀ i,ia <= i->i < a.size->K b ib <= K a i):SoLMa a b (out.push x) ia (ib+1):=by
 have:=h.blockB (k:=1) fun i j h1 h2 h3 h4 h5=>by
  have:j=ib:=by omega
  subst this;exact hc i h1 h2
 rwa [soextract_one e,Array.append_singleton] at this
theorem soextract_all{xs:Array Keyed}{i:Nat}:(xs.extract i xs.size).toList=xs.toList.drop i:=by
 rw [Array.toList_extract,List.extract_eq_take_drop,List.take_of_length_le]
 rw [List.length_drop,Array.length_toList];exact Nat.le_refl _
theorem SoLMa.doneB{a b out:Array Keyed}{ia ib:Nat}(h:SoLMa a b out ia ib)(e:b.size <= ib):
  SoGood (a.toList++b.toList) (out++a.extract ia a.size++b.extract ib b.size):=by
 unfold SoLMa at h
 have e0:b.toList.drop ib=[]:=List.drop_of_length_le (by simpa using e)
 unfold SoGood
 rw [Array.toList_append,Array.toList_append,soextract_all,soextract_all]
 refine ⟨h.perm,?_⟩
 rw [e0,List.append_nil]
 exact List.pairwise_append.mpr ⟨h.so,h.sR,h.oR⟩
theorem SoLMa.doneA{a b out:Array Keyed}{ia ib:Nat}(h:SoLMa a b out ia ib)(e:a.size <= ia):
  SoGood (a.toList++b.toList) (out++a.extract ia a.size++b.extract ib b.size):=by
 unfold SoLMa at h
 have e0:a.toList.drop ia=[]:=List.drop_of_length_le (by simpa using e)
 unfold SoGood
 rw [Array.toList_append,Array.toList_append,soextract_all,soextract_all]
 refine ⟨h.perm,?_⟩
 rw [e0,List.append_nil]
 exact List.pairwise_append.mpr ⟨h.so,h.sS,h.oS⟩
theorem SoLMa.last{a b out:Array Keyed}{ia ib:Nat}(h:SoLMa a b out ia ib)(e:a.size <= ia+1)
  (hL:∀ j,j < b.size->K b j <= K a (a.size - 1)):SoGood (a.toList++b.toList) (out++b.extract ib b.size++a.extract ia a.size):=by
 unfold SoLMa at h
 unfold SoGood
 rw [Array.toList_append,Array.toList_append,soextract_all,soextract_all]
 refine ⟨h.flip.perm,?_⟩
 refine List.pairwise_append.mpr ⟨List.pairwise_append.mpr ⟨h.so,h.sS,h.oS⟩,h.sR,fun x hx y hy=>?_⟩
 rcases List.mem_append.mp hx with hx | hx
 ·exact h.oR x hx y hy
 ·obtain ⟨i,i1,i2,e1⟩:=somem_drop hy
  obtain ⟨j,j1,j2,e2⟩:=somem_drop hx
  have:i=a.size - 1:=by omega
  subst this
  unfold sokle;rw [e1,e2]
  exact hL j j2
theorem sosorted_list{xs:Array Keyed}(h:∀ i j,i <= j->j < xs.size->K xs i <= K xs j):xs.toList.Pairwise sokle:=by
 rw [List.pairwise_iff_getElem]
 intro i j hi hj hij
 have:=h i j (by omega) (by simpa using hj)
 rw [SoK_of_lt (by simpa using hi),SoK_of_lt (by simpa using hj)] at this
 simpa [sokle] using this
theorem SoLMa.init{a b:Array Keyed}(sa:∀ i j,i <= j->j < a.size->K a i <= K a j)(sb:∀ i j,i <= j->j < b.size->K b i <= K b j):SoLMa a b #[] 0 0:=by
 unfold SoLMa
 exact ⟨by simp,by simp,by simpa using sosorted_list sa,by simpa using sosorted_list sb,by simp,by simp⟩
end PyProof.Rows
namespace PyProof.Rows
set_option autoImplicit false
open PySem
def setMinGallop':Nat->StateT SortSt Sem Unit:=sortPriv% PySem.Builtin.setMinGallop
abbrev setGal(st:SortSt)(g:Nat):SortSt:=SortSt.mk' (kindOf st) (arrOf st) (pendingOf st) g (failedOf st)
theorem setMinGallop'_eq(g:Nat):setMinGallop' g=modify fun s=>setGal s g:=rfl
def mergeLo':Array Keyed->Array Keyed->StateT SortSt Sem (Array Keyed):=sortPriv% PySem.Builtin.mergeLo
section
variable {prog:Program} {w:World} {A:Around} {E:Value->Shared->Prop} {s:Shared}
def SoSG(st st':SortSt):Prop:=kindOf st'=kindOf st /\ arrOf st'=arrOf st /\ pendingOf st'=pendingOf st /\ failedOf st'=failedOf st
theorem SoSG.gal{st st':SortSt}(h:SoSG st st')(g:Nat):SoSG st (setGal st' g):=h
theorem wpS_setMin{st:SortSt}{g:Nat}{Q:Unit->SortSt->Prop}(h:Q () (setGal st g)):wpS (model prog w) A E s (setMinGallop' g) Q st:=by
 rw [setMinGallop'_eq];exact wpS_modify h
theorem wpS_mergeLo{st:SortSt}{a b:Array Keyed}{Q:Array Keyed->SortSt->Prop}(hk:kindOf st=oneType')(ha0:IntKeys a)(hb0:IntKeys b)
  (ha1:0 < a.size) (hb1:0 < b.size)
  (sa:∀ i j,i <= j->j < a.size->K a i <= K a j) (sb:∀ i j,i <= j->j < b.size->K b i <= K b j)
  (hfirst:∀ i,i < a.size->K b 0 <= K a i) (hlast:∀ j,j < b.size->K b j <= K a (a.size - 1))
  (h:∀ r st',SoSG st st'->SoGood (a.toList++b.toList) r->Q r st'):
  wpS (model prog w) A E s (mergeLo' a b) Q st:=by
 refine wpS_bind (wpS_lift (wpAny_rule ⟨rfl,?_⟩))
 dsimp only
 obtain ⟨t0,p0,e0⟩:=hb0.at hb1
 refine wpS_bind (wpS_elem e0 ?_)
 have hI:SoLMa a b (#[].push (.int (K b 0) t0,p0)) 0 1:=(SoLMa.init sa sb).pushB e0 fun i _ h2=>hfirst i h2
 have hI':SoLMa a b #[(.int (K b 0) t0,p0)] 0 1:=hI
 by_cases hone:1=b.size
 ·rw [if_pos (by simpa using hone)]
  exact wpS_pure (h _ _ ⟨rfl,rfl,rfl,rfl⟩ (hI'.doneB (by omega)))
 rw [if_neg (by simpa using hone)]
 by_cases hone':0+1=a.size
 ·rw [if_pos (by simpa using hone')]
  exact wpS_pure (h _ _ ⟨rfl,rfl,rfl,rfl⟩ (hI'.last (by omega) hlast))
 rw [if_neg (by simpa using hone')]
 refine wpS_bind (wpS_get ?_)
 refine wpS_bind (wpS_mono (wpS_forRange
  (I:=fun x c st'=>SoSG st st' /\ ∃ out ia ib mg,c=(none,out,ia,ib,mg) /\ SoLMa a b out ia ib /\ ia+1 < a.size /\ ib < b.size /\ x < ia+ib)
  (Q:=fun c st'=>SoSG st st' /\ ∃ r rest,c=(some r,rest) /\ SoGood (a.toList++b.toList) r) ?step ?fin
  ⟨⟨rfl,rfl,rfl,rfl⟩,_,0,1,_,rfl,hI',by omega,by omega,by omega⟩) ?post)
 case post=>
  rintro c st' ⟨hG,r,rest,rfl,hr⟩
  exact wpS_pure (h r st' hG hr)
 case fin=>
  rintro c st' ⟨hG,out,ia,ib,mg,rfl,hL,h1,h2,h3⟩
  omega
 case step=>
  rintro x c st' _ hx ⟨hG,out,ia,ib,mg,rfl,hL,hia,hib,hx2⟩
  dsimp only
  refine wpS_bind (wpS_mono (wpS_forRange
   (I:=fun y c st''=>SoSG st st'' /\ ∃ out' ia' ib' cs,c=(none,out',ia',ib',cs) /\ SoLMa a b out' ia' ib' /\ ia'+1 < a.size /\ ib' < b.size /\ y+ia+ib <= ia'+ib')
   (Q:=fun c st''=>SoSG st st'' /\ ((∃ out' ia' ib' cs,c=(none,out',ia',ib',cs) /\ SoLMa a b out' ia' ib' /\ ia'+1 < a.size /\ ib' < b.size /\ ia+ib < ia'+ib') \/
    (∃ r rest,c=(some r,rest) /\ SoGood (a.toList++b.toList) r))) ?step1 ?fin1 ⟨hG,_,_,_,_,rfl,hL,hia,hib,by omega⟩) ?post1)
  case fin1=>
   rintro c st'' ⟨hG',out',ia',ib',cs,rfl,hL',h1,h2,h3⟩
   exact ⟨hG',.inl ⟨_,_,_,_,rfl,hL',h1,h2,by omega⟩⟩
  case step1=>
   rintro y c st'' _ hy ⟨hG',out',ia',ib',⟨ac,bc⟩,rfl,hL',h1,h2,h3⟩
   dsimp only
   obtain ⟨tb,pb,eb⟩:=hb0.at (i:=ib') (by omega)
   obtain ⟨ta,pa,ea⟩:=ha0.at (i:=ia') (by omega)
   refine wpS_bind (wpS_elem eb (wpS_bind (wpS_elem ea (wpS_bind (wpS_ltV (hG'.1.trans hk) ?_)))))
   dsimp only
   by_cases hless:K b ib' < K a ia'
   ·simp only [hless,decide_true,if_true]
    refine wpS_bind (wpS_elem eb ?_)
    have hL2:=hL'.pushB eb fun i h4 h5=>by have:=sa ia' i h4 h5;omega
    by_cases hend:ib'+1=b.size
    ·rw [if_pos (by simpa using hend)]
     exact wpS_pure ⟨hG',.inr ⟨_,_,rfl,hL2.doneB (by omega)⟩⟩
    ·rw [if_neg (by simpa using hend)]
     split
     ·exact wpS_pure ⟨hG',.inl ⟨_,_,_,_,rfl,hL2,by omega,by omega,by omega⟩⟩
     ·exact wpS_pure ⟨hG',_,_,_,_,rfl,hL2,by omega,by omega,by omega⟩
   ·simp only [hless,decide_false,Bool.false_eq_true,if_false]
    refine wpS_bind (wpS_elem ea ?_)
    have hL2:=hL'.pushA ea fun j h4 h5=>by have:=sb ib' j h4 h5;omega
    by_cases hend:ia'+1+1=a.size
    ·rw [if_pos (by simpa using hend)]
     exact wpS_pure ⟨hG',.inr ⟨_,_,rfl,hL2.last (by omega) hlast⟩⟩
    ·rw [if_neg (by simpa using hend)]
     split
     ·exact wpS_pure ⟨hG',.inl ⟨_,_,_,_,rfl,hL2,by omega,by omega,by omega⟩⟩
     ·exact wpS_pure ⟨hG',_,_,_,_,rfl,hL2,by omega,by omega,by omega⟩
  case post1=>
   rintro c st'' ⟨hG',(⟨out',ia',ib',⟨ac,bc⟩,rfl,hL',h1,h2,h3⟩ | ⟨r,⟨o2,i2,j2,cs⟩,rfl,hr⟩)⟩
   case inr=>
    dsimp only
    exact wpS_pure ⟨hG',r,_,rfl,hr⟩
   dsimp only
   refine wpS_bind (wpS_lift (wpAny_rule ⟨rfl,?_⟩))
   refine wpS_bind (wpS_mono (wpS_forRange
    (I:=fun y c st3=>SoSG st st3 /\ ∃ out3 ia3 ib3 cs,c=(none,out3,ia3,ib3,cs) /\ SoLMa a b out3 ia3 ib3 /\ ia3+1 < a.size /\ ib3 < b.size /\ ia+ib < ia3+ib3)
    (Q:=fun c st3=>SoSG st st3 /\ ((∃ out3 ia3 ib3 cs,c=(none,out3,ia3,ib3,cs) /\ SoLMa a b out3 ia3 ib3 /\ ia3+1 < a.size /\ ib3 < b.size /\ ia+ib < ia3+ib3) \/
     (∃ r rest,c=(some r,rest) /\ SoGood (a.toList++b.toList) r))) ?step2 ?fin2 ⟨hG',_,_,_,_,rfl,hL',h1,h2,h3⟩) ?post2)
   case fin2=>
    rintro c st3 ⟨hG3,out3,ia3,ib3,cs,rfl,hL3,h4,h5,h6⟩
    exact ⟨hG3,.inl ⟨_,_,_,_,rfl,hL3,h4,h5,h6⟩⟩
   case post2=>
    rintro c st3 ⟨hG3,(⟨out3,ia3,ib3,⟨mg3,ac3,bc3⟩,rfl,hL3,h4,h5,h6⟩ | ⟨r,⟨o2,i2,j2,mg2,cs⟩,rfl,hr⟩)⟩
    ·dsimp only
     refine wpS_bind (wpS_setMin ?_)
     exact wpS_pure ⟨hG3.gal _,_,_,_,_,rfl,hL3,h4,h5,by omega⟩
    ·dsimp only
     exact wpS_pure ⟨hG3,r,_,rfl,hr⟩
   case step2=>
    clear hL hL' hx2 hx hia hib h1 h2
    generalize hz:ia+ib=z
    clear h3
    rintro y c st3 _ hy ⟨hG3,out,ia,ib,⟨mg3,ac3,bc3⟩,rfl,hL,hia,hib,h6⟩
    dsimp only
    by_cases hmg:mg3 > 1
    ·rw [if_pos hmg]
     refine wpS_bind (wpS_setMin ?_)
     have hG1:=hG3.gal (mg3 - 1)
     generalize setGal st3 (mg3 - 1)=st4 at hG1 ⊢
     obtain ⟨tb,pb,eb⟩:=hb0.at (i:=ib) (by omega)
     refine wpS_bind (wpS_elem eb ?_)
     refine wpS_bind (wpS_gallop (hG1.1.trans hk) ha0 (by omega) (by omega) (fun i j h1 h2=>sa _ _ (by omega) (by omega)) fun k hk1 hk2 hk3=>?_)
     dsimp only
     have hB0:∀ i,ia+k <= i->i < a.size->K b ib <= K a i:=by
      intro i h1 h2
      have q1:=hk3 (i - ia) (by omega) (by omega)
      rw [show ia+(i - ia)=i by omega] at q1
      simp [sogB] at q1
      omega
     by_cases hk0:k > 0
     ·rw [if_pos hk0]
      have hL1:=hL.blockA (k:=k) fun i j h1 h2 h3 h4 h5=>by
       have q1:=hk2 (i - ia) (by omega)
       rw [show ia+(i - ia)=i by omega] at q1
       have q2:=sb ib j h4 h5
       simp [sogB] at q1
       omega
      by_cases hend0:ia+k+1=a.size
      ·rw [if_pos (by simpa using hend0)]
       exact wpS_pure ⟨hG1,.inr ⟨_,_,rfl,hL1.last (by omega) hlast⟩⟩
      ·rw [if_neg (by simpa using hend0)]
       by_cases hend1:ia+k=a.size
       ·rw [if_pos (by simpa using hend1)]
        exact wpS_pure ⟨hG1,.inr ⟨_,_,rfl,hL1.doneA (by omega)⟩⟩
       ·rw [if_neg (by simpa using hend1)]
        have hi1:ia+k+1 < a.size:=by omega
        have hi2:ia <= ia+k:=by omega
        have hB1:=hB0
        generalize ia+k=i1 at hL1 hi1 hi2 hB1 ⊢
        obtain ⟨tb2,pb2,eb2⟩:=hb0.at (i:=ib) (by omega)
        refine wpS_bind (wpS_elem eb2 ?_)
        have hL2:=hL1.pushB eb2 hB1
        by_cases hend:ib+1=b.size
        ·rw [if_pos (by simpa using hend)]
         exact wpS_pure ⟨hG1,.inr ⟨_,_,rfl,hL2.doneB (by omega)⟩⟩
        ·rw [if_neg (by simpa using hend)]
         obtain ⟨ta2,pa2,ea2⟩:=ha0.at (i:=i1) (by omega)
         refine wpS_bind (wpS_elem ea2 ?_)
         refine wpS_bind (wpS_gallop (hG1.1.trans hk) hb0 (by omega) (by omega) (fun i j h1 h2=>sb _ _ (by omega) (by omega)) fun k1 hk1 hk2 hk3=>?_)
         dsimp only
         by_cases hk10:k1 > 0
         ·rw [if_pos hk10]
          have hL3:=hL2.blockB (k:=k1) fun i j h1 h2 h3 h4 h5=>by
           have q1:=hk2 (j - (ib+1)) (by omega)
           rw [show ib+1+(j - (ib+1))=j by omega] at q1
           have q2:=sa i1 i h1 h2
           simp [sogB] at q1
           omega
          by_cases hend2:ib+1+k1=b.size
          ·rw [if_pos (by simpa using hend2)]
           exact wpS_pure ⟨hG1,.inr ⟨_,_,rfl,hL3.doneB (by omega)⟩⟩
          ·rw [if_neg (by simpa using hend2)]
           refine wpS_bind (wpS_elem ea2 ?_)
           have hL4:=hL3.pushA ea2 fun j h1 h2=>by
            have q1:=hk3 (j - (ib+1)) (by omega) (by omega)
            rw [show ib+1+(j - (ib+1))=j by omega] at q1
            simp [sogB] at q1
            omega
           by_cases hend3:i1+1+1=a.size
           ·rw [if_pos (by simpa using hend3)]
            exact wpS_pure ⟨hG1,.inr ⟨_,_,rfl,hL4.last (by omega) hlast⟩⟩
           ·rw [if_neg (by simpa using hend3)]
            split
            ·exact wpS_pure ⟨hG1,.inl ⟨_,_,_,_,rfl,hL4,by omega,by omega,by omega⟩⟩
            ·exact wpS_pure ⟨hG1,_,_,_,_,rfl,hL4,by omega,by omega,by omega⟩
         ·rw [if_neg hk10]
          refine wpS_bind (wpS_elem ea2 ?_)
          have hL4:=hL2.pushA ea2 fun j h1 h2=>by
            have q1:=hk3 (j - (ib+1)) (by omega) (by omega)
            rw [show ib+1+(j - (ib+1))=j by omega] at q1
            simp [sogB] at q1
            omega
          by_cases hend3:i1+1+1=a.size
          ·rw [if_pos (by simpa using hend3)]
           exact wpS_pure ⟨hG1,.inr ⟨_,_,rfl,hL4.last (by omega) hlast⟩⟩
          ·rw [if_neg (by simpa using hend3)]
           split
           ·exact wpS_pure ⟨hG1,.inl ⟨_,_,_,_,rfl,hL4,by omega,by omega,by omega⟩⟩
           ·exact wpS_pure ⟨hG1,_,_,_,_,rfl,hL4,by omega,by omega,by omega⟩
     ·rw [if_neg hk0]
      have hk00:k=0:=by omega
      subst hk00
      have hL1:=hL
      have hi1:ia+1 < a.size:=hia
      have hi2:ia <= ia:=Nat.le_refl _
      have hB1:∀ i,ia <= i->i < a.size->K b ib <= K a i:=hB0
      revert hL1 hi1 hi2 hB1
      generalize hii:ia=i1
      intro hL1 hi1 hi2 hB1
      obtain ⟨tb2,pb2,eb2⟩:=hb0.at (i:=ib) (by omega)
      refine wpS_bind (wpS_elem eb2 ?_)
      have hL2:=hL1.pushB eb2 hB1
      by_cases hend:ib+1=b.size
      ·rw [if_pos (by simpa using hend)]
       exact wpS_pure ⟨hG1,.inr ⟨_,_,rfl,hL2.doneB (by omega)⟩⟩
      ·rw [if_neg (by simpa using hend)]
       obtain ⟨ta2,pa2,ea2⟩:=ha0.at (i:=i1) (by omega)
       refine wpS_bind (wpS_elem ea2 ?_)
       refine wpS_bind (wpS_gallop (hG1.1.trans hk) hb0 (by omega) (by omega) (fun i j h1 h2=>sb _ _ (by omega) (by omega)) fun k1 hk1 hk2 hk3=>?_)
       dsimp only
       by_cases hk10:k1 > 0
       ·rw [if_pos hk10]
        have hL3:=hL2.blockB (k:=k1) fun i j h1 h2 h3 h4 h5=>by
         have q1:=hk2 (j - (ib+1)) (by omega)
         rw [show ib+1+(j - (ib+1))=j by omega] at q1
         have q2:=sa i1 i h1 h2
         simp [sogB] at q1
         omega
        by_cases hend2:ib+1+k1=b.size
        ·rw [if_pos (by simpa using hend2)]
         exact wpS_pure ⟨hG1,.inr ⟨_,_,rfl,hL3.doneB (by omega)⟩⟩
        ·rw [if_neg (by simpa using hend2)]
         refine wpS_bind (wpS_elem ea2 ?_)
         have hL4:=hL3.pushA ea2 fun j h1 h2=>by
          have q1:=hk3 (j - (ib+1)) (by omega) (by omega)
          rw [show ib+1+(j - (ib+1))=j by omega] at q1
          simp [sogB] at q1
          omega
         by_cases hend3:i1+1+1=a.size
         ·rw [if_pos (by simpa using hend3)]
          exact wpS_pure ⟨hG1,.inr ⟨_,_,rfl,hL4.last (by omega) hlast⟩⟩
         ·rw [if_neg (by simpa using hend3)]
          split
          ·exact wpS_pure ⟨hG1,.inl ⟨_,_,_,_,rfl,hL4,by omega,by omega,by omega⟩⟩
          ·exact wpS_pure ⟨hG1,_,_,_,_,rfl,hL4,by omega,by omega,by omega⟩
       ·rw [if_neg hk10]
        refine wpS_bind (wpS_elem ea2 ?_)
        have hL4:=hL2.pushA ea2 fun j h1 h2=>by
          have q1:=hk3 (j - (ib+1)) (by omega) (by omega)
          rw [show ib+1+(j - (ib+1))=j by omega] at q1
          simp [sogB] at q1
          omega
        by_cases hend3:i1+1+1=a.size
        ·rw [if_pos (by simpa using hend3)]
         exact wpS_pure ⟨hG1,.inr ⟨_,_,rfl,hL4.last (by omega) hlast⟩⟩
        ·rw [if_neg (by simpa using hend3)]
         split
         ·exact wpS_pure ⟨hG1,.inl ⟨_,_,_,_,rfl,hL4,by omega,by omega,by omega⟩⟩
         ·exact wpS_pure ⟨hG1,_,_,_,_,rfl,hL4,by omega,by omega,by omega⟩
    ·rw [if_neg hmg]
     refine wpS_bind (wpS_setMin ?_)
     have hG1:=hG3.gal mg3
     generalize setGal st3 mg3=st4 at hG1 ⊢
     obtain ⟨tb,pb,eb⟩:=hb0.at (i:=ib) (by omega)
     refine wpS_bind (wpS_elem eb ?_)
     refine wpS_bind (wpS_gallop (hG1.1.trans hk) ha0 (by omega) (by omega) (fun i j h1 h2=>sa _ _ (by omega) (by omega)) fun k hk1 hk2 hk3=>?_)
     dsimp only
     have hB0:∀ i,ia+k <= i->i < a.size->K b ib <= K a i:=by
      intro i h1 h2
      have q1:=hk3 (i - ia) (by omega) (by omega)
      rw [show ia+(i - ia)=i by omega] at q1
      simp [sogB] at q1
      omega
     by_cases hk0:k > 0
     ·rw [if_pos hk0]
      have hL1:=hL.blockA (k:=k) fun i j h1 h2 h3 h4 h5=>by
       have q1:=hk2 (i - ia) (by omega)
       rw [show ia+(i - ia)=i by omega] at q1
       have q2:=sb ib j h4 h5
       simp [sogB] at q1
       omega
      by_cases hend0:ia+k+1=a.size
      ·rw [if_pos (by simpa using hend0)]
       exact wpS_pure ⟨hG1,.inr ⟨_,_,rfl,hL1.last (by omega) hlast⟩⟩
      ·rw [if_neg (by simpa using hend0)]
       by_cases hend1:ia+k=a.size
       ·rw [if_pos (by simpa using hend1)]
        exact wpS_pure ⟨hG1,.inr ⟨_,_,rfl,hL1.doneA (by omega)⟩⟩
       ·rw [if_neg (by simpa using hend1)]
        have hi1:ia+k+1 < a.size:=by omega
        have hi2:ia <= ia+k:=by omega
        have hB1:=hB0
        generalize ia+k=i1 at hL1 hi1 hi2 hB1 ⊢
        obtain ⟨tb2,pb2,eb2⟩:=hb0.at (i:=ib) (by omega)
        refine wpS_bind (wpS_elem eb2 ?_)
        have hL2:=hL1.pushB eb2 hB1
        by_cases hend:ib+1=b.size
        ·rw [if_pos (by simpa using hend)]
         exact wpS_pure ⟨hG1,.inr ⟨_,_,rfl,hL2.doneB (by omega)⟩⟩
        ·rw [if_neg (by simpa using hend)]
         obtain ⟨ta2,pa2,ea2⟩:=ha0.at (i:=i1) (by omega)
         refine wpS_bind (wpS_elem ea2 ?_)
         refine wpS_bind (wpS_gallop (hG1.1.trans hk) hb0 (by omega) (by omega) (fun i j h1 h2=>sb _ _ (by omega) (by omega)) fun k1 hk1 hk2 hk3=>?_)
         dsimp only
         by_cases hk10:k1 > 0
         ·rw [if_pos hk10]
          have hL3:=hL2.blockB (k:=k1) fun i j h1 h2 h3 h4 h5=>by
           have q1:=hk2 (j - (ib+1)) (by omega)
           rw [show ib+1+(j - (ib+1))=j by omega] at q1
           have q2:=sa i1 i h1 h2
           simp [sogB] at q1
           omega
          by_cases hend2:ib+1+k1=b.size
          ·rw [if_pos (by simpa using hend2)]
           exact wpS_pure ⟨hG1,.inr ⟨_,_,rfl,hL3.doneB (by omega)⟩⟩
          ·rw [if_neg (by simpa using hend2)]
           refine wpS_bind (wpS_elem ea2 ?_)
           have hL4:=hL3.pushA ea2 fun j h1 h2=>by
            have q1:=hk3 (j - (ib+1)) (by omega) (by omega)
            rw [show ib+1+(j - (ib+1))=j by omega] at q1
            simp [sogB] at q1
            omega
           by_cases hend3:i1+1+1=a.size
           ·rw [if_pos (by simpa using hend3)]
            exact wpS_pure ⟨hG1,.inr ⟨_,_,rfl,hL4.last (by omega) hlast⟩⟩
           ·rw [if_neg (by simpa using hend3)]
            split
            ·exact wpS_pure ⟨hG1,.inl ⟨_,_,_,_,rfl,hL4,by omega,by omega,by omega⟩⟩
            ·exact wpS_pure ⟨hG1,_,_,_,_,rfl,hL4,by omega,by omega,by omega⟩
         ·rw [if_neg hk10]
          refine wpS_bind (wpS_elem ea2 ?_)
          have hL4:=hL2.pushA ea2 fun j h1 h2=>by
            have q1:=hk3 (j - (ib+1)) (by omega) (by omega)
            rw [show ib+1+(j - (ib+1))=j by omega] at q1
            simp [sogB] at q1
            omega
          by_cases hend3:i1+1+1=a.size
          ·rw [if_pos (by simpa using hend3)]
           exact wpS_pure ⟨hG1,.inr ⟨_,_,rfl,hL4.last (by omega) hlast⟩⟩
          ·rw [if_neg (by simpa using hend3)]
           split
           ·exact wpS_pure ⟨hG1,.inl ⟨_,_,_,_,rfl,hL4,by omega,by omega,by omega⟩⟩
           ·exact wpS_pure ⟨hG1,_,_,_,_,rfl,hL4,by omega,by omega,by omega⟩
     ·rw [if_neg hk0]
      have hk00:k=0:=by omega
      subst hk00
      have hL1:=hL
      have hi1:ia+1 < a.size:=hia
      have hi2:ia <= ia:=Nat.le_refl _
      have hB1:∀ i,ia <= i->i < a.size->K b ib <= K a i:=hB0
      revert hL1 hi1 hi2 hB1
      generalize hii:ia=i1
      intro hL1 hi1 hi2 hB1
      obtain ⟨tb2,pb2,eb2⟩:=hb0.at (i:=ib) (by omega)
      refine wpS_bind (wpS_elem eb2 ?_)
      have hL2:=hL1.pushB eb2 hB1
      by_cases hend:ib+1=b.size
      ·rw [if_pos (by simpa using hend)]
       exact wpS_pure ⟨hG1,.inr ⟨_,_,rfl,hL2.doneB (by omega)⟩⟩
      ·rw [if_neg (by simpa using hend)]
       obtain ⟨ta2,pa2,ea2⟩:=ha0.at (i:=i1) (by omega)
       refine wpS_bind (wpS_elem ea2 ?_)
       refine wpS_bind (wpS_gallop (hG1.1.trans hk) hb0 (by omega) (by omega) (fun i j h1 h2=>sb _ _ (by omega) (by omega)) fun k1 hk1 hk2 hk3=>?_)
       dsimp only
       by_cases hk10:k1 > 0
       ·rw [if_pos hk10]
        have hL3:=hL2.blockB (k:=k1) fun i j h1 h2 h3 h4 h5=>by
         have q1:=hk2 (j - (ib+1)) (by omega)
         rw [show ib+1+(j - (ib+1))=j by omega] at q1
         have q2:=sa i1 i h1 h2
         simp [sogB] at q1
         omega
        by_cases hend2:ib+1+k1=b.size
        ·rw [if_pos (by simpa using hend2)]
         exact wpS_pure ⟨hG1,.inr ⟨_,_,rfl,hL3.doneB (by omega)⟩⟩
        ·rw [if_neg (by simpa using hend2)]
         refine wpS_bind (wpS_elem ea2 ?_)
         have hL4:=hL3.pushA ea2 fun j h1 h2=>by
          have q1:=hk3 (j - (ib+1)) (by omega) (by omega)
          rw [show ib+1+(j - (ib+1))=j by omega] at q1
          simp [sogB] at q1
          omega
         by_cases hend3:i1+1+1=a.size
         ·rw [if_pos (by simpa using hend3)]
          exact wpS_pure ⟨hG1,.inr ⟨_,_,rfl,hL4.last (by omega) hlast⟩⟩
         ·rw [if_neg (by simpa using hend3)]
          split
          ·exact wpS_pure ⟨hG1,.inl ⟨_,_,_,_,rfl,hL4,by omega,by omega,by omega⟩⟩
          ·exact wpS_pure ⟨hG1,_,_,_,_,rfl,hL4,by omega,by omega,by omega⟩
       ·rw [if_neg hk10]
        refine wpS_bind (wpS_elem ea2 ?_)
        have hL4:=hL2.pushA ea2 fun j h1 h2=>by
          have q1:=hk3 (j - (ib+1)) (by omega) (by omega)
          rw [show ib+1+(j - (ib+1))=j by omega] at q1
          simp [sogB] at q1
          omega
        by_cases hend3:i1+1+1=a.size
        ·rw [if_pos (by simpa using hend3)]
         exact wpS_pure ⟨hG1,.inr ⟨_,_,rfl,hL4.last (by omega) hlast⟩⟩
        ·rw [if_neg (by simpa using hend3)]
         split
         ·exact wpS_pure ⟨hG1,.inl ⟨_,_,_,_,rfl,hL4,by omega,by omega,by omega⟩⟩
         ·exact wpS_pure ⟨hG1,_,_,_,_,rfl,hL4,by omega,by omega,by omega⟩
end
end PyProof.Rows
namespace PyProof.Rows
set_option autoImplicit false
open PySem
structure SoLH(T out R S:List Keyed):Prop where
 perm:(R++S++out).Perm T
 so:out.Pairwise sokle
 sR:R.Pairwise sokle
 sS:S.Pairwise sokle
 oR:∀ y∈R,∀ x∈out,sokle y x
 oS:∀ y∈S,∀ x∈out,sokle y x
theorem SoLH.flip{T out R S:List Keyed}(h:SoLH T out R S):SoLH T out S R:=by
 obtain ⟨p,a,b,c,d,e⟩:=h
 exact ⟨List.Perm.trans (List.Perm.append_right _ List.perm_append_comm) p,a,c,b,e,d⟩
theorem SoLH.takeB{T out R S1 S2:List Keyed}(h:SoLH T out R (S1++S2))(hc:∀ y∈R,∀ x∈S2,sokle y x):SoLH T (S2++out) R S1:=by
 obtain ⟨p,a,b,c,d,e⟩:=h
 rw [List.pairwise_append] at c
 refine ⟨by simpa [List.append_assoc] using p,List.pairwise_append.mpr ⟨c.2.1,a,fun x hx y hy=>e x (List.mem_append_right _ hx) y hy⟩,b,c.1,?_,?_⟩
 ·intro y hy x hx
  rcases List.mem_append.mp hx with hx | hx
  ·exact hc y hy x hx
  ·exact d y hy x hx
 ·intro y hy x hx
  rcases List.mem_append.mp hx with hx | hx
  ·exact c.2.2 y hy x hx
  ·exact e y (List.mem_append_left _ hy) x hx
theorem SoLH.takeA{T out R1 R2 S:List Keyed}(h:SoLH T out (R1++R2) S)(hc:∀ y∈S,∀ x∈R2,sokle y x):SoLH T (R2++out) R1 S:=
 (h.flip.takeB hc).flip
def SoLHa(a b out:Array Keyed)(na nb:Nat):Prop:=SoLH (a.toList++b.toList) out.reverse.toList (a.extract 0 na).toList (b.extract 0 nb).toList
theorem sotake_split{xs:Array Keyed}{i n:Nat}(h:i <= n):(xs.extract 0 n).toList=(xs.extract 0 i).toList++(xs.extract i n).toList:=by
 rw [<- Array.toList_append,Array.extract_append_extract,Nat.min_eq_left (Nat.zero_le _),Nat.max_eq_right h]
theorem SoLHa.blockA{a b out:Array Keyed}{na nb i:Nat}(h:SoLHa a b out na nb)(hi:i <= na)
  (hc:∀ x y,i <= x->x < na->x < a.size->y < nb->y < b.size->K b y <= K a x):SoLHa a b (out++(a.extract i na).reverse) i nb:=by
 unfold SoLHa at h ⊢
 rw [sotake_split hi] at h
 rw [Array.reverse_append,Array.reverse_reverse,Array.toList_append]
 refine h.takeA fun y hy x hx=>?_
 obtain ⟨x',i1,i2,i3,e1⟩:=somem_extract hx
 obtain ⟨y',j1,j2,j3,e2⟩:=somem_extract hy
 unfold sokle;rw [e1,e2]
 exact hc x' y' i1 i2 i3 j2 j3
theorem SoLHa.blockB{a b out:Array Keyed}{na nb i:Nat}(h:SoLHa a b out na nb)(hi:i <= nb)
  (hc:∀ x y,x < na->x < a.size->i <= y->y < nb->y < b.size->K a x <= K b y):SoLHa a b (out++(b.extract i nb).reverse) na i:=by
 unfold SoLHa at h ⊢
 rw [sotake_split (xs:=b) hi] at h
 rw [Array.reverse_append,Array.reverse_reverse,Array.toList_append]
 refine h.takeB fun y hy x hx=>?_
 obtain ⟨x',i1,i2,i3,e1⟩:=somem_extract hx
 obtain ⟨y',j1,j2,j3,e2⟩:=somem_extract hy
 unfold sokle;rw [e1,e2]
 exact hc y' x' j2 j3 i1 i2 i3
theorem SoLHa.pushA{a b out:Array Keyed}{na nb:Nat}{x:Keyed}(h:SoLHa a b out na nb)(hn:1 <= na)(e:a[na - 1]?=some x)
  (hc:∀ y,y < nb->y < b.size->K b y <= K a (na - 1)):SoLHa a b (out.push x) (na - 1) nb:=by
 have:=h.blockA (i:=na - 1) (by omega) fun i j h1 h2 h3 h4 h5=>by
  have:i=na - 1:=by omega
  subst this;exact hc j h4 h5
 have e1:=soextract_one e
 rw [show na - 1+1=na by omega] at e1
 rw [e1] at this
 simpa using this
theorem SoLHa.pushB{a b out:Array Keyed}{na nb:Nat}{x:Keyed}(h:SoLHa a b out na nb)(hn:1 <= nb)(e:b[nb - 1]?=some x)
  (hc:∀ i,i < na->i < a.size->K a i <= K b (nb - 1)):SoLHa a b (out.push x) na (nb - 1):=by
 have:=h.blockB (i:=nb - 1) (by omega) fun i j h1 h2 h3 h4 h5=>by
  have:j=nb - 1:=by omega
  subst this;exact hc i h1 h2
 have e1:=soextract_one e
 rw [show nb - 1+1=nb by omega] at e1
 rw [e1] at this
 simpa using this
theorem SoLHa.doneA{a b out:Array Keyed}{na nb:Nat}(h:SoLHa a b out na nb)(e:na=0):
  SoGood (a.toList++b.toList) (a.extract 0 na++b.extract 0 nb++out.reverse):=by
 unfold SoLHa at h
 subst e
 unfold SoGood
 rw [Array.toList_append,Array.toList_append]
 refine ⟨h.perm,?_⟩
 have e0:(a.extract 0 0).toList=[]:=by simp
 rw [e0,List.nil_append]
 exact List.pairwise_append.mpr ⟨h.sS,h.so,h.oS⟩
theorem SoLHa.doneB{a b out:Array Keyed}{na nb:Nat}(h:SoLHa a b out na nb)(e:nb=0):
  SoGood (a.toList++b.toList) (a.extract 0 na++b.extract 0 nb++out.reverse):=by
 unfold SoLHa at h
 subst e
 unfold SoGood
 rw [Array.toList_append,Array.toList_append]
 refine ⟨h.perm,?_⟩
 have e0:(b.extract 0 0).toList=[]:=by simp
 rw [e0,List.append_nil]
 exact List.pairwise_append.mpr ⟨h.sR,h.so,h.oR⟩
theorem SoLHa.first{a b out:Array Keyed}{na nb:Nat}(h:SoLHa a b out na nb)(e:nb=1)
  (hF:∀ i,i < a.size->K b 0 <= K a i):SoGood (a.toList++b.toList) (b.extract 0 nb++a.extract 0 na++out.reverse):=by
 unfold SoLHa at h
 unfold SoGood
 rw [Array.toList_append,Array.toList_append]
 refine ⟨h.flip.perm,?_⟩
 rw [List.append_assoc]
 refine List.pairwise_append.mpr ⟨h.sS,List.pairwise_append.mpr ⟨h.sR,h.so,h.oR⟩,fun x hx y hy=>?_⟩
 rcases List.mem_append.mp hy with hy | hy
 ·obtain ⟨i,i1,i2,i3,e1⟩:=somem_extract hy
  obtain ⟨j,j1,j2,j3,e2⟩:=somem_extract hx
  have:j=0:=by omega
  subst this
  unfold sokle;rw [e1,e2]
  exact hF i i3
 ·exact h.oS x hx y hy
theorem SoLHa.init{a b:Array Keyed}(sa:∀ i j,i <= j->j < a.size->K a i <= K a j)(sb:∀ i j,i <= j->j < b.size->K b i <= K b j):SoLHa a b #[] a.size b.size:=by
 unfold SoLHa
 exact ⟨by simp,by simp,by simpa using sosorted_list sa,by simpa using sosorted_list sb,by simp,by simp⟩
def mergeHi':Array Keyed->Array Keyed->StateT SortSt Sem (Array Keyed):=sortPriv% PySem.Builtin.mergeHi
section
variable {prog:Program} {w:World} {A:Around} {E:Value->Shared->Prop} {s:Shared}
theorem wpS_mergeHi{st:SortSt}{a b:Array Keyed}{Q:Array Keyed->SortSt->Prop}(hk:kindOf st=oneType')(ha0:IntKeys a)(hb0:IntKeys b)
  (ha1:0 < a.size) (hb1:0 < b.size)
  (sa:∀ i j,i <= j->j < a.size->K a i <= K a j) (sb:∀ i j,i <= j->j < b.size->K b i <= K b j)
  (hfirst:∀ i,i < a.size->K b 0 <= K a i) (hlast:∀ j,j < b.size->K b j <= K a (a.size - 1))
  (h:∀ r st',SoSG st st'->SoGood (a.toList++b.toList) r->Q r st'):
  wpS (model prog w) A E s (mergeHi' a b) Q st:=by
 refine wpS_bind (wpS_lift (wpAny_rule ⟨rfl,?_⟩))
 dsimp only
 obtain ⟨t0,p0,e0⟩:=ha0.at (i:=a.size - 1) (by omega)
 refine wpS_bind (wpS_elem e0 ?_)
 have hI:SoLHa a b (#[].push (.int (K a (a.size - 1)) t0,p0)) (a.size - 1) b.size:=(SoLHa.init sa sb).pushA (by omega) e0 fun i _ h2=>hlast i h2
 have hI':SoLHa a b #[(.int (K a (a.size - 1)) t0,p0)] (a.size - 1) b.size:=hI
 by_cases hone:a.size - 1=0
 ·rw [if_pos (by simpa using hone)]
  exact wpS_pure (h _ _ ⟨rfl,rfl,rfl,rfl⟩ (hI'.doneA (by omega)))
 rw [if_neg (by simpa using hone)]
 by_cases hone':b.size=1
 ·rw [if_pos (by simpa using hone')]
  exact wpS_pure (h _ _ ⟨rfl,rfl,rfl,rfl⟩ (hI'.first (by omega) hfirst))
 rw [if_neg (by simpa using hone')]
 refine wpS_bind (wpS_get ?_)
 refine wpS_bind (wpS_mono (wpS_forRange
  (I:=fun x c st'=>SoSG st st' /\ ∃ out ia ib mg,c=(none,ia,ib,out,mg) /\ SoLHa a b out ia ib /\ 1 <= ia /\ ia <= a.size /\ 2 <= ib /\ ib <= b.size /\ x+ia+ib < a.size+b.size)
  (Q:=fun c st'=>SoSG st st' /\ ∃ r rest,c=(some r,rest) /\ SoGood (a.toList++b.toList) r) ?step ?fin ?init) ?post)
 case init=>exact ⟨⟨rfl,rfl,rfl,rfl⟩,_,a.size - 1,b.size,_,rfl,hI',by omega,by omega,by omega,by omega,by omega⟩
 case post=>
  rintro c st' ⟨hG,r,rest,rfl,hr⟩
  exact wpS_pure (h r st' hG hr)
 case fin=>
  rintro c st' ⟨hG,out,ia,ib,mg,rfl,hL,h1,h2,h3,h4,h5⟩
  omega
 case step=>
  rintro x c st' _ hx ⟨hG,out,ia,ib,mg,rfl,hL,hia,hia2,hib,hib2,hx2⟩
  dsimp only
  refine wpS_bind (wpS_mono (wpS_forRange
   (I:=fun y c st''=>SoSG st st'' /\ ∃ out' ia' ib' cs,c=(none,ia',ib',out',cs) /\ SoLHa a b out' ia' ib' /\ 1 <= ia' /\ ia' <= a.size /\ 2 <= ib' /\ ib' <= b.size /\ y+ia'+ib' <= ia+ib)
   (Q:=fun c st''=>SoSG st st'' /\ ((∃ out' ia' ib' cs,c=(none,ia',ib',out',cs) /\ SoLHa a b out' ia' ib' /\ 1 <= ia' /\ ia' <= a.size /\ 2 <= ib' /\ ib' <= b.size /\ ia'+ib' < ia+ib) \/
    (∃ r rest,c=(some r,rest) /\ SoGood (a.toList++b.toList) r))) ?step1 ?fin1 ?init1) ?post1)
  case init1=>exact ⟨hG,_,_,_,_,rfl,hL,hia,hia2,hib,hib2,by omega⟩
  case fin1=>
   rintro c st'' ⟨hG',out',ia',ib',cs,rfl,hL',h1,h2,h3,h4,h5⟩
   exact ⟨hG',.inl ⟨_,_,_,_,rfl,hL',h1,h2,h3,h4,by omega⟩⟩
  case step1=>
   rintro y c st'' _ hy ⟨hG',out',ia',ib',⟨ac,bc⟩,rfl,hL',h1,h2,h3,h4,h5⟩
   dsimp only
   obtain ⟨tb,pb,eb⟩:=hb0.at (i:=ib' - 1) (by omega)
   obtain ⟨ta,pa,ea⟩:=ha0.at (i:=ia' - 1) (by omega)
   refine wpS_bind (wpS_elem eb (wpS_bind (wpS_elem ea (wpS_bind (wpS_ltV (hG'.1.trans hk) ?_)))))
   dsimp only
   by_cases hless:K b (ib' - 1) < K a (ia' - 1)
   ·simp only [hless,decide_true,if_true]
    refine wpS_bind (wpS_elem ea ?_)
    have hL2:=hL'.pushA h1 ea fun j h4 h5=>by have:=sb j (ib' - 1) (by omega) (by omega);omega
    by_cases hend:ia' - 1=0
    ·rw [if_pos (by simpa using hend)]
     exact wpS_pure ⟨hG',.inr ⟨_,_,rfl,hL2.doneA (by omega)⟩⟩
    ·rw [if_neg (by simpa using hend)]
     split
     ·exact wpS_pure ⟨hG',.inl ⟨_,_,_,_,rfl,hL2,by omega,by omega,by omega,by omega,by omega⟩⟩
     ·exact wpS_pure ⟨hG',_,_,_,_,rfl,hL2,by omega,by omega,by omega,by omega,by omega⟩
   ·simp only [hless,decide_false,Bool.false_eq_true,if_false]
    refine wpS_bind (wpS_elem eb ?_)
    have hL2:=hL'.pushB (by omega) eb fun j h4 h5=>by have:=sa j (ia' - 1) (by omega) (by omega);omega
    by_cases hend:ib' - 1=1
    ·rw [if_pos (by simpa using hend)]
     exact wpS_pure ⟨hG',.inr ⟨_,_,rfl,hL2.first (by omega) hfirst⟩⟩
    ·rw [if_neg (by simpa using hend)]
     split
     ·exact wpS_pure ⟨hG',.inl ⟨_,_,_,_,rfl,hL2,by omega,by omega,by omega,by omega,by omega⟩⟩
     ·exact wpS_pure ⟨hG',_,_,_,_,rfl,hL2,by omega,by omega,by omega,by omega,by omega⟩
  case post1=>
   rintro c st'' ⟨hG',(⟨out',ia',ib',⟨ac,bc⟩,rfl,hL',h1,h2,h3,h4,h5⟩ | ⟨r,⟨o2,i2,j2,cs⟩,rfl,hr⟩)⟩
   case inr=>
    dsimp only
    exact wpS_pure ⟨hG',r,_,rfl,hr⟩
   dsimp only
   refine wpS_bind (wpS_lift (wpAny_rule ⟨rfl,?_⟩))
   refine wpS_bind (wpS_mono (wpS_forRange
    (I:=fun y c st3=>SoSG st st3 /\ ∃ out3 ia3 ib3 cs,c=(none,ia3,ib3,out3,cs) /\ SoLHa a b out3 ia3 ib3 /\ 1 <= ia3 /\ ia3 <= a.size /\ 2 <= ib3 /\ ib3 <= b.size /\ ia3+ib3 < ia+ib)
    (Q:=fun c st3=>SoSG st st3 /\ ((∃ out3 ia3 ib3 cs,c=(none,ia3,ib3,out3,cs) /\ SoLHa a b out3 ia3 ib3 /\ 1 <= ia3 /\ ia3 <= a.size /\ 2 <= ib3 /\ ib3 <= b.size /\ ia3+ib3 < ia+ib) \/
     (∃ r rest,c=(some r,rest) /\ SoGood (a.toList++b.toList) r))) ?step2 ?fin2 ⟨hG',_,_,_,_,rfl,hL',h1,h2,h3,h4,h5⟩) ?post2)
   case fin2=>
    rintro c st3 ⟨hG3,out3,ia3,ib3,cs,rfl,hL3,h4,h5,h6,h7,h8⟩
    exact ⟨hG3,.inl ⟨_,_,_,_,rfl,hL3,h4,h5,h6,h7,h8⟩⟩
   case post2=>
    rintro c st3 ⟨hG3,(⟨out3,ia3,ib3,⟨mg3,ac3,bc3⟩,rfl,hL3,h4,h5,h6,h7,h8⟩ | ⟨r,⟨o2,i2,j2,mg2,cs⟩,rfl,hr⟩)⟩
    ·dsimp only
     refine wpS_bind (wpS_setMin ?_)
     exact wpS_pure ⟨hG3.gal _,_,_,_,_,rfl,hL3,h4,h5,h6,h7,by omega⟩
    ·dsimp only
     exact wpS_pure ⟨hG3,r,_,rfl,hr⟩
   case step2=>
    clear hL hL' hx2 hx hia hib hia2 hib2 h1 h2 h3 h4
    generalize hz:ia+ib=z
    clear h5
    rintro y c st3 _ hy ⟨hG3,out,ia,ib,⟨mg3,ac3,bc3⟩,rfl,hL,hia,hia2,hib,hib2,h6⟩
    dsimp only
    by_cases hmg:mg3 > 1
    ·rw [if_pos hmg]
     refine wpS_bind (wpS_setMin ?_)
     have hG1:=hG3.gal (mg3 - 1)
     generalize setGal st3 (mg3 - 1)=st4 at hG1 ⊢
     obtain ⟨tb,pb,eb⟩:=hb0.at (i:=ib - 1) (by omega)
     refine wpS_bind (wpS_elem eb ?_)
     refine wpS_bind (wpS_gallop (hG1.1.trans hk) ha0 (by omega) (by omega) (fun i j h1 h2=>sa _ _ (by omega) (by omega)) fun k hk1 hk2 hk3=>?_)
     dsimp only
     simp only [Nat.zero_add] at hk2 hk3
     have hB0:∀ i,i < k->i < a.size->K a i <= K b (ib - 1):=by
      intro i h1 h2
      have q1:=hk2 i h1
      simp [sogB] at q1
      omega
     by_cases hk0:ia - k > 0
     ·rw [if_pos hk0]
      have hL1:=hL.blockA (i:=k) (by omega) fun i j h1 h2 h3 h4 h5=>by
       have q1:=hk3 i (by omega) (by omega)
       have q2:=sb j (ib - 1) (by omega) (by omega)
       simp [sogB] at q1
       omega
      by_cases hend1:k=0
      ·rw [if_pos (by simpa using hend1)]
       exact wpS_pure ⟨hG1,.inr ⟨_,_,rfl,hL1.doneA (by omega)⟩⟩
      ·rw [if_neg (by simpa using hend1)]
       have hi1:1 <= k:=by omega
       have hi2:k <= ia:=by omega
       have hB1:=hB0
       revert hL1 hi1 hi2 hB1
       generalize out++(a.extract k ia).reverse=o1
       intro hL1 hi1 hi2 hB1
       revert hL1 hi1 hi2 hB1
       generalize hii:k=i1
       intro hL1 hi1 hi2 hB1
       obtain ⟨tb2,pb2,eb2⟩:=hb0.at (i:=ib - 1) (by omega)
       refine wpS_bind (wpS_elem eb2 ?_)
       have hL2:=hL1.pushB (by omega) eb2 hB1
       by_cases hend:ib - 1=1
       ·rw [if_pos (by simpa using hend)]
        exact wpS_pure ⟨hG1,.inr ⟨_,_,rfl,hL2.first (by omega) hfirst⟩⟩
       ·rw [if_neg (by simpa using hend)]
        obtain ⟨ta2,pa2,ea2⟩:=ha0.at (i:=i1 - 1) (by omega)
        refine wpS_bind (wpS_elem ea2 ?_)
        refine wpS_bind (wpS_gallop (hG1.1.trans hk) hb0 (by omega) (by omega) (fun i j h1 h2=>sb _ _ (by omega) (by omega)) fun k1 hk1 hk2 hk3=>?_)
        dsimp only
        simp only [Nat.zero_add] at hk2 hk3
        by_cases hk10:ib - 1 - k1 > 0
        ·rw [if_pos hk10]
         have hL3:=hL2.blockB (i:=k1) (by omega) fun i j h1 h2 h3 h4 h5=>by
          have q1:=hk3 j (by omega) (by omega)
          have q2:=sa i (i1 - 1) (by omega) (by omega)
          simp [sogB] at q1
          omega
         by_cases hend2:k1=1
         ·rw [if_pos (by simpa using hend2)]
          exact wpS_pure ⟨hG1,.inr ⟨_,_,rfl,hL3.first (by omega) hfirst⟩⟩
         ·rw [if_neg (by simpa using hend2)]
          by_cases hend4:k1=0
          ·rw [if_pos (by simpa using hend4)]
           exact wpS_pure ⟨hG1,.inr ⟨_,_,rfl,hL3.doneB (by omega)⟩⟩
          ·rw [if_neg (by simpa using hend4)]
           refine wpS_bind (wpS_elem ea2 ?_)
           have hL4:=hL3.pushA (by omega) ea2 fun j h1 h2=>by
            have q1:=hk2 j (by omega)
            simp [sogB] at q1
            omega
           by_cases hend3:i1 - 1=0
           ·rw [if_pos (by simpa using hend3)]
            exact wpS_pure ⟨hG1,.inr ⟨_,_,rfl,hL4.doneA (by omega)⟩⟩
           ·rw [if_neg (by simpa using hend3)]
            split
            ·exact wpS_pure ⟨hG1,.inl ⟨_,_,_,_,rfl,hL4,by omega,by omega,by omega,by omega,by omega⟩⟩
            ·exact wpS_pure ⟨hG1,_,_,_,_,rfl,hL4,by omega,by omega,by omega,by omega,by omega⟩
        ·rw [if_neg hk10]
         refine wpS_bind (wpS_elem ea2 ?_)
         have hL4:=hL2.pushA (by omega) ea2 fun j h1 h2=>by
           have q1:=hk2 j (by omega)
           simp [sogB] at q1
           omega
         by_cases hend3:i1 - 1=0
         ·rw [if_pos (by simpa using hend3)]
          exact wpS_pure ⟨hG1,.inr ⟨_,_,rfl,hL4.doneA (by omega)⟩⟩
         ·rw [if_neg (by simpa using hend3)]
          split
          ·exact wpS_pure ⟨hG1,.inl ⟨_,_,_,_,rfl,hL4,by omega,by omega,by omega,by omega,by omega⟩⟩
          ·exact wpS_pure ⟨hG1,_,_,_,_,rfl,hL4,by omega,by omega,by omega,by omega,by omega⟩
     ·rw [if_neg hk0]
      have hk00:k=ia:=by omega
      subst hk00
      have hL1:=hL
      have hi1:1 <= k:=by omega
      have hi2:k <= k:=Nat.le_refl _
      have hB1:=hB0
      revert hL1 hi1 hi2 hB1
      generalize hii:k=i1
      intro hL1 hi1 hi2 hB1
      obtain ⟨tb2,pb2,eb2⟩:=hb0.at (i:=ib - 1) (by omega)
      refine wpS_bind (wpS_elem eb2 ?_)
      have hL2:=hL1.pushB (by omega) eb2 hB1
      by_cases hend:ib - 1=1
      ·rw [if_pos (by simpa using hend)]
       exact wpS_pure ⟨hG1,.inr ⟨_,_,rfl,hL2.first (by omega) hfirst⟩⟩
      ·rw [if_neg (by simpa using hend)]
       obtain ⟨ta2,pa2,ea2⟩:=ha0.at (i:=i1 - 1) (by omega)
       refine wpS_bind (wpS_elem ea2 ?_)
       refine wpS_bind (wpS_gallop (hG1.1.trans hk) hb0 (by omega) (by omega) (fun i j h1 h2=>sb _ _ (by omega) (by omega)) fun k1 hk1 hk2 hk3=>?_)
       dsimp only
       simp only [Nat.zero_add] at hk2 hk3
       by_cases hk10:ib - 1 - k1 > 0
       ·rw [if_pos hk10]
        have hL3:=hL2.blockB (i:=k1) (by omega) fun i j h1 h2 h3 h4 h5=>by
         have q1:=hk3 j (by omega) (by omega)
         have q2:=sa i (i1 - 1) (by omega) (by omega)
         simp [sogB] at q1
         omega
        by_cases hend2:k1=1
        ·rw [if_pos (by simpa using hend2)]
         exact wpS_pure ⟨hG1,.inr ⟨_,_,rfl,hL3.first (by omega) hfirst⟩⟩
        ·rw [if_neg (by simpa using hend2)]
         by_cases hend4:k1=0
         ·rw [if_pos (by simpa using hend4)]
          exact wpS_pure ⟨hG1,.inr ⟨_,_,rfl,hL3.doneB (by omega)⟩⟩
         ·rw [if_neg (by simpa using hend4)]
          refine wpS_bind (wpS_elem ea2 ?_)
          have hL4:=hL3.pushA (by omega) ea2 fun j h1 h2=>by
           have q1:=hk2 j (by omega)
           simp [sogB] at q1
           omega
          by_cases hend3:i1 - 1=0
          ·rw [if_pos (by simpa using hend3)]
           exact wpS_pure ⟨hG1,.inr ⟨_,_,rfl,hL4.doneA (by omega)⟩⟩
          ·rw [if_neg (by simpa using hend3)]
           split
           ·exact wpS_pure ⟨hG1,.inl ⟨_,_,_,_,rfl,hL4,by omega,by omega,by omega,by omega,by omega⟩⟩
           ·exact wpS_pure ⟨hG1,_,_,_,_,rfl,hL4,by omega,by omega,by omega,by omega,by omega⟩
       ·rw [if_neg hk10]
        refine wpS_bind (wpS_elem ea2 ?_)
        have hL4:=hL2.pushA (by omega) ea2 fun j h1 h2=>by
          have q1:=hk2 j (by omega)
          simp [sogB] at q1
          omega
        by_cases hend3:i1 - 1=0
        ·rw [if_pos (by simpa using hend3)]
         exact wpS_pure ⟨hG1,.inr ⟨_,_,rfl,hL4.doneA (by omega)⟩⟩
        ·rw [if_neg (by simpa using hend3)]
         split
         ·exact wpS_pure ⟨hG1,.inl ⟨_,_,_,_,rfl,hL4,by omega,by omega,by omega,by omega,by omega⟩⟩
         ·exact wpS_pure ⟨hG1,_,_,_,_,rfl,hL4,by omega,by omega,by omega,by omega,by omega⟩
    ·rw [if_neg hmg]
     refine wpS_bind (wpS_setMin ?_)
     have hG1:=hG3.gal mg3
     generalize setGal st3 mg3=st4 at hG1 ⊢
     obtain ⟨tb,pb,eb⟩:=hb0.at (i:=ib - 1) (by omega)
     refine wpS_bind (wpS_elem eb ?_)
     refine wpS_bind (wpS_gallop (hG1.1.trans hk) ha0 (by omega) (by omega) (fun i j h1 h2=>sa _ _ (by omega) (by omega)) fun k hk1 hk2 hk3=>?_)
     dsimp only
     simp only [Nat.zero_add] at hk2 hk3
     have hB0:∀ i,i < k->i < a.size->K a i <= K b (ib - 1):=by
      intro i h1 h2
      have q1:=hk2 i h1
      simp [sogB] at q1
      omega
     by_cases hk0:ia - k > 0
     ·rw [if_pos hk0]
      have hL1:=hL.blockA (i:=k) (by omega) fun i j h1 h2 h3 h4 h5=>by
       have q1:=hk3 i (by omega) (by omega)
       have q2:=sb j (ib - 1) (by omega) (by omega)
       simp [sogB] at q1
       omega
      by_cases hend1:k=0
      ·rw [if_pos (by simpa using hend1)]
       exact wpS_pure ⟨hG1,.inr ⟨_,_,rfl,hL1.doneA (by omega)⟩⟩
      ·rw [if_neg (by simpa using hend1)]
       have hi1:1 <= k:=by omega
       have hi2:k <= ia:=by omega
       have hB1:=hB0
       revert hL1 hi1 hi2 hB1
       generalize out++(a.extract k ia).reverse=o1
       intro hL1 hi1 hi2 hB1
       revert hL1 hi1 hi2 hB1
       generalize hii:k=i1
       intro hL1 hi1 hi2 hB1
       obtain ⟨tb2,pb2,eb2⟩:=hb0.at (i:=ib - 1) (by omega)
       refine wpS_bind (wpS_elem eb2 ?_)
       have hL2:=hL1.pushB (by omega) eb2 hB1
       by_cases hend:ib - 1=1
       ·rw [if_pos (by simpa using hend)]
        exact wpS_pure ⟨hG1,.inr ⟨_,_,rfl,hL2.first (by omega) hfirst⟩⟩
       ·rw [if_neg (by simpa using hend)]
        obtain ⟨ta2,pa2,ea2⟩:=ha0.at (i:=i1 - 1) (by omega)
        refine wpS_bind (wpS_elem ea2 ?_)
        refine wpS_bind (wpS_gallop (hG1.1.trans hk) hb0 (by omega) (by omega) (fun i j h1 h2=>sb _ _ (by omega) (by omega)) fun k1 hk1 hk2 hk3=>?_)
        dsimp only
        simp only [Nat.zero_add] at hk2 hk3
        by_cases hk10:ib - 1 - k1 > 0
        ·rw [if_pos hk10]
         have hL3:=hL2.blockB (i:=k1) (by omega) fun i j h1 h2 h3 h4 h5=>by
          have q1:=hk3 j (by omega) (by omega)
          have q2:=sa i (i1 - 1) (by omega) (by omega)
          simp [sogB] at q1
          omega
         by_cases hend2:k1=1
         ·rw [if_pos (by simpa using hend2)]
          exact wpS_pure ⟨hG1,.inr ⟨_,_,rfl,hL3.first (by omega) hfirst⟩⟩
         ·rw [if_neg (by simpa using hend2)]
          by_cases hend4:k1=0
          ·rw [if_pos (by simpa using hend4)]
           exact wpS_pure ⟨hG1,.inr ⟨_,_,rfl,hL3.doneB (by omega)⟩⟩
          ·rw [if_neg (by simpa using hend4)]
           refine wpS_bind (wpS_elem ea2 ?_)
           have hL4:=hL3.pushA (by omega) ea2 fun j h1 h2=>by
            have q1:=hk2 j (by omega)
            simp [sogB] at q1
            omega
           by_cases hend3:i1 - 1=0
           ·rw [if_pos (by simpa using hend3)]
            exact wpS_pure ⟨hG1,.inr ⟨_,_,rfl,hL4.doneA (by omega)⟩⟩
           ·rw [if_neg (by simpa using hend3)]
            split
            ·exact wpS_pure ⟨hG1,.inl ⟨_,_,_,_,rfl,hL4,by omega,by omega,by omega,by omega,by omega⟩⟩
            ·exact wpS_pure ⟨hG1,_,_,_,_,rfl,hL4,by omega,by omega,by omega,by omega,by omega⟩
        ·rw [if_neg hk10]
         refine wpS_bind (wpS_elem ea2 ?_)
         have hL4:=hL2.pushA (by omega) ea2 fun j h1 h2=>by
           have q1:=hk2 j (by omega)
           simp [sogB] at q1
           omega
         by_cases hend3:i1 - 1=0
         ·rw [if_pos (by simpa using hend3)]
          exact wpS_pure ⟨hG1,.inr ⟨_,_,rfl,hL4.doneA (by omega)⟩⟩
         ·rw [if_neg (by simpa using hend3)]
          split
          ·exact wpS_pure ⟨hG1,.inl ⟨_,_,_,_,rfl,hL4,by omega,by omega,by omega,by omega,by omega⟩⟩
          ·exact wpS_pure ⟨hG1,_,_,_,_,rfl,hL4,by omega,by omega,by omega,by omega,by omega⟩
     ·rw [if_neg hk0]
      have hk00:k=ia:=by omega
      subst hk00
      have hL1:=hL
      have hi1:1 <= k:=by omega
      have hi2:k <= k:=Nat.le_refl _
      have hB1:=hB0
      revert hL1 hi1 hi2 hB1
      generalize hii:k=i1
      intro hL1 hi1 hi2 hB1
      obtain ⟨tb2,pb2,eb2⟩:=hb0.at (i:=ib - 1) (by omega)
      refine wpS_bind (wpS_elem eb2 ?_)
      have hL2:=hL1.pushB (by omega) eb2 hB1
      by_cases hend:ib - 1=1
      ·rw [if_pos (by simpa using hend)]
       exact wpS_pure ⟨hG1,.inr ⟨_,_,rfl,hL2.first (by omega) hfirst⟩⟩
      ·rw [if_neg (by simpa using hend)]
       obtain ⟨ta2,pa2,ea2⟩:=ha0.at (i:=i1 - 1) (by omega)
       refine wpS_bind (wpS_elem ea2 ?_)
       refine wpS_bind (wpS_gallop (hG1.1.trans hk) hb0 (by omega) (by omega) (fun i j h1 h2=>sb _ _ (by omega) (by omega)) fun k1 hk1 hk2 hk3=>?_)
       dsimp only
       simp only [Nat.zero_add] at hk2 hk3
       by_cases hk10:ib - 1 - k1 > 0
       ·rw [if_pos hk10]
        have hL3:=hL2.blockB (i:=k1) (by omega) fun i j h1 h2 h3 h4 h5=>by
         have q1:=hk3 j (by omega) (by omega)
         have q2:=sa i (i1 - 1) (by omega) (by omega)
         simp [sogB] at q1
         omega
        by_cases hend2:k1=1
        ·rw [if_pos (by simpa using hend2)]
         exact wpS_pure ⟨hG1,.inr ⟨_,_,rfl,hL3.first (by omega) hfirst⟩⟩
        ·rw [if_neg (by simpa using hend2)]
         by_cases hend4:k1=0
         ·rw [if_pos (by simpa using hend4)]
          exact wpS_pure ⟨hG1,.inr ⟨_,_,rfl,hL3.doneB (by omega)⟩⟩
         ·rw [if_neg (by simpa using hend4)]
          refine wpS_bind (wpS_elem ea2 ?_)
          have hL4:=hL3.pushA (by omega) ea2 fun j h1 h2=>by
           have q1:=hk2 j (by omega)
           simp [sogB] at q1
           omega
          by_cases hend3:i1 - 1=0
          ·rw [if_pos (by simpa using hend3)]
           exact wpS_pure ⟨hG1,.inr ⟨_,_,rfl,hL4.doneA (by omega)⟩⟩
          ·rw [if_neg (by simpa using hend3)]
           split
           ·exact wpS_pure ⟨hG1,.inl ⟨_,_,_,_,rfl,hL4,by omega,by omega,by omega,by omega,by omega⟩⟩
           ·exact wpS_pure ⟨hG1,_,_,_,_,rfl,hL4,by omega,by omega,by omega,by omega,by omega⟩
       ·rw [if_neg hk10]
        refine wpS_bind (wpS_elem ea2 ?_)
        have hL4:=hL2.pushA (by omega) ea2 fun j h1 h2=>by
          have q1:=hk2 j (by omega)
          simp [sogB] at q1
          omega
        by_cases hend3:i1 - 1=0
        ·rw [if_pos (by simpa using hend3)]
         exact wpS_pure ⟨hG1,.inr ⟨_,_,rfl,hL4.doneA (by omega)⟩⟩
        ·rw [if_neg (by simpa using hend3)]
         split
         ·exact wpS_pure ⟨hG1,.inl ⟨_,_,_,_,rfl,hL4,by omega,by omega,by omega,by omega,by omega⟩⟩
         ·exact wpS_pure ⟨hG1,_,_,_,_,rfl,hL4,by omega,by omega,by omega,by omega,by omega⟩
end
end PyProof.Rows
namespace PyProof.Rows
set_option autoImplicit false
open PySem
def SoSeg(xs:Array Keyed)(lo hi:Nat):Prop:=∀ i j,lo <= i->i <= j->j < hi->K xs i <= K xs j
theorem SoSeg.join{xs:Array Keyed}{lo mid hi:Nat}(h1:SoSeg xs lo mid)(h2:SoSeg xs mid hi)(h:lo < mid->mid < hi->K xs (mid - 1) <= K xs mid):SoSeg xs lo hi:=by
 intro i j hi1 hij hj
 by_cases hjm:j < mid
 ·exact h1 i j hi1 hij hjm
 by_cases him:mid <= i
 ·exact h2 i j him hij hj
 have a1:=h1 i (mid - 1) hi1 (by omega) (by omega)
 have a2:=h2 mid j (Nat.le_refl _) (by omega) hj
 have a3:=h (by omega) (by omega)
 omega
def soputAt(xs:Array Keyed)(sa:Nat)(l:List (Keyed × Nat)):Array Keyed:=l.foldl (fun a x=>a.setIfInBounds (sa+x.2) x.1) xs
theorem soputAt_get(sa k:Nat):∀ (l:List Keyed) (n:Nat) (xs:Array Keyed),sa+n+l.length <= xs.size->
  (soputAt xs sa (l.zipIdx n))[k]?=if sa+n <= k /\ k < sa+n+l.length then l[k - (sa+n)]? else xs[k]?
 | [],n,xs,_=>by
  rw [if_neg (by rw [List.length_nil];omega)];rfl
 | x :: l,n,xs,h=>by
  rw [List.zipIdx_cons]
  show (soputAt (xs.setIfInBounds (sa+n) x) sa (l.zipIdx (n+1)))[k]?=_
  rw [List.length_cons] at h ⊢
  rw [soputAt_get sa k l (n+1) _ (by rw [Array.size_setIfInBounds];omega)]
  by_cases h1:k=sa+n
  ·subst h1
   rw [if_neg (by omega),if_pos (by omega),Nat.sub_self,List.getElem?_cons_zero,Array.getElem?_setIfInBounds_self_of_lt (by omega)]
  ·by_cases h2:sa+n <= k /\ k < sa+n+(l.length+1)
   ·rw [if_pos (by omega),if_pos h2,show k - (sa+n)=(k - (sa+(n+1)))+1 by omega,List.getElem?_cons_succ]
   ·rw [if_neg (by omega),if_neg h2,Array.getElem?_setIfInBounds_ne (by omega)]
theorem soputAt_list{xs:Array Keyed}{sa:Nat}{l:List Keyed}(h:sa+l.length <= xs.size):
  (soputAt xs sa l.zipIdx).toList=xs.toList.take sa++l++xs.toList.drop (sa+l.length):=by
 apply List.ext_getElem?
 intro k
 rw [Array.getElem?_toList,soputAt_get sa k l 0 xs (by omega)]
 rw [List.append_assoc,List.getElem?_append,List.getElem?_append,List.length_take,Array.length_toList (xs:=xs),Nat.min_eq_left (by omega),List.getElem?_drop]
 by_cases h1:k < sa
 ·rw [if_neg (by omega),if_pos h1,List.getElem?_take_of_lt h1,Array.getElem?_toList]
 ·rw [if_neg h1]
  by_cases h2:k - sa < l.length
  ·rw [if_pos (by omega),if_pos h2];rfl
  ·rw [if_neg (by omega),if_neg h2,Array.getElem?_toList]
   congr 1;omega
theorem sosplit3{xs:Array Keyed}{i j k:Nat}(h1:i <= j)(h2:j <= k):
  xs.toList=xs.toList.take i++((xs.extract i j).toList++(xs.extract j k).toList)++xs.toList.drop k:=by
 have e1:xs.toList.drop i=(xs.extract i j).toList++xs.toList.drop j:=by
  have:=sodrop_split (xs:=xs) (i:=i) (k:=j - i)
  rwa [show i+(j - i)=j by omega] at this
 have e2:xs.toList.drop j=(xs.extract j k).toList++xs.toList.drop k:=by
  have:=sodrop_split (xs:=xs) (i:=j) (k:=k - j)
  rwa [show j+(k - j)=k by omega] at this
 have e3:=(List.take_append_drop i xs.toList).symm
 rw [e1,e2] at e3
 rw [List.append_assoc,List.append_assoc]
 exact e3
theorem SoK_extract{xs:Array Keyed}{lo hi i:Nat}(h:lo+i < hi)(h2:hi <= xs.size):K (xs.extract lo hi) i=K xs (lo+i):=by
 apply K_congr
 rw [Array.getElem?_extract,if_pos (by omega)]
theorem IntKeys.extract{xs:Array Keyed}(h:IntKeys xs){lo hi:Nat}:IntKeys (xs.extract lo hi):=by
 intro p hp
 refine h p ?_
 rw [Array.toList_extract,List.extract_eq_take_drop] at hp
 exact List.mem_of_mem_drop (List.mem_of_mem_take hp)
theorem somerged_seg{xs r:Array Keyed}{sa sb k n1 nb:Nat}(hk:k <= sb - sa)(h1:sa <= sb)(hn:n1 <= nb)(hb:sb+nb <= xs.size)
  (sA:SoSeg xs sa sb) (sB:SoSeg xs sb (sb+nb)) (hk0:sa+k < sb) (hn0:0 < n1)
  (g1:∀ i,sa <= i->i < sa+k->K xs i <= K xs sb) (g2:∀ j,n1 <= j->j < nb->K xs (sb - 1) <= K xs (sb+j))
  (hr:SoGood ((xs.extract (sa+k) sb).toList++(xs.extract sb (sb+n1)).toList) r):
  (soputAt xs (sa+k) r.toList.zipIdx).Perm xs /\ SoSeg (soputAt xs (sa+k) r.toList.zipIdx) sa (sb+nb) /\
   (∀ i,i < sa \/ sb+nb <= i->(soputAt xs (sa+k) r.toList.zipIdx)[i]?=xs[i]?):=by
 obtain ⟨hp,hs⟩:=hr
 have hlen:r.toList.length=sb - (sa+k)+n1:=by
  rw [hp.length_eq,List.length_append,Array.length_toList,Array.length_toList,Array.size_extract,Array.size_extract]
  omega
 have hfit:sa+k+r.toList.length <= xs.size:=by omega
 have hget:∀ i,(soputAt xs (sa+k) r.toList.zipIdx)[i]?=if sa+k <= i /\ i < sb+n1 then r.toList[i - (sa+k)]? else xs[i]?:=by
  intro i
  rw [soputAt_get (sa+k) i r.toList 0 xs (by omega),hlen]
  by_cases hc:sa+k <= i /\ i < sb+n1
  ·rw [if_pos hc,if_pos (by omega)];rfl
  ·rw [if_neg hc,if_neg (by omega)]
 have hout:∀ i,¬ (sa+k <= i /\ i < sb+n1)->K (soputAt xs (sa+k) r.toList.zipIdx) i=K xs i:=fun i hi=>K_congr (by rw [hget,if_neg hi])
 have hin:∀ i,sa+k <= i->i < sb+n1->∃ p,sa+k <= p /\ p < sb+n1 /\ K (soputAt xs (sa+k) r.toList.zipIdx) i=K xs p:=by
  intro i i1 i2
  have hl:i - (sa+k) < r.toList.length:=by omega
  have e:(soputAt xs (sa+k) r.toList.zipIdx)[i]?=some r.toList[i - (sa+k)]:=by
   rw [hget,if_pos ⟨i1,i2⟩,List.getElem?_eq_getElem hl]
  have hm:r.toList[i - (sa+k)]∈(xs.extract (sa+k) sb).toList++(xs.extract sb (sb+n1)).toList:=hp.mem_iff.mp (List.getElem_mem hl)
  have ev:K (soputAt xs (sa+k) r.toList.zipIdx) i=sokv r.toList[i - (sa+k)]:=by unfold K sokv;rw [e]
  rcases List.mem_append.mp hm with hm | hm
  ·obtain ⟨p,p1,p2,p3,pe⟩:=somem_extract hm
   exact ⟨p,p1,by omega,by rw [ev,pe]⟩
  ·obtain ⟨p,p1,p2,p3,pe⟩:=somem_extract hm
   exact ⟨p,by omega,p2,by rw [ev,pe]⟩
 refine ⟨?_,?_,?_⟩
 ·rw [Array.perm_iff_toList_perm,soputAt_list hfit]
  conv=>rhs;rw [sosplit3 (xs:=xs) (i:=sa+k) (j:=sb) (k:=sb+n1) (by omega) (by omega)]
  rw [show sa+k+r.toList.length=sb+n1 by omega]
  exact List.Perm.append_right _ (List.Perm.append_left _ hp)
 ·intro i j hi1 hij hj1
  by_cases ci:sa+k <= i /\ i < sb+n1
  ·by_cases cj:j < sb+n1
   ·
    have li:i - (sa+k) < r.toList.length:=by omega
    have lj:j - (sa+k) < r.toList.length:=by omega
    have ei:K (soputAt xs (sa+k) r.toList.zipIdx) i=sokv r.toList[i - (sa+k)]:=by
     unfold K sokv;rw [hget,if_pos ci,List.getElem?_eq_getElem li]
    have ej:K (soputAt xs (sa+k) r.toList.zipIdx) j=sokv r.toList[j - (sa+k)]:=by
     unfold K sokv;rw [hget,if_pos (by omega),List.getElem?_eq_getElem lj]
    rw [ei,ej]
    by_cases hd:i=j
    ·subst hd;exact Int.le_refl _
    ·exact List.pairwise_iff_getElem.mp hs _ _ li lj (by omega)
   ·rw [hout j (by omega)]
    obtain ⟨p,p1,p2,pe⟩:=hin i ci.1 ci.2
    rw [pe]
    by_cases hpb:p < sb
    ·have a1:=sA p (sb - 1) (by omega) (by omega) (by omega)
     have a2:=g2 (j - sb) (by omega) (by omega)
     rw [show sb+(j - sb)=j by omega] at a2
     omega
    ·exact sB p j (by omega) (by omega) hj1
  ·rw [hout i ci]
   by_cases hlt:i < sa+k
   ·have a0:=g1 i hi1 hlt
    by_cases cj:sa+k <= j /\ j < sb+n1
    ·obtain ⟨p,p1,p2,pe⟩:=hin j cj.1 cj.2
     rw [pe]
     by_cases hpb:p < sb
     ·exact sA i p hi1 (by omega) hpb
     ·have:=sB sb p (Nat.le_refl _) (by omega) (by omega);omega
    ·rw [hout j cj]
     by_cases hjb:j < sb
     ·exact sA i j hi1 hij hjb
     ·have:=sB sb j (Nat.le_refl _) (by omega) hj1;omega
   ·rw [hout j (by omega)]
    exact sB i j (by omega) hij hj1
 ·intro i hi
  rw [hget,if_neg (by omega)]
section
variable {prog:Program} {w:World} {A:Around} {E:Value->Shared->Prop} {s:Shared}
theorem wpS_set{σ:Type}{M:Model}{Q:PUnit->σ->Prop}{st st':σ}(h:Q ⟨⟩ st'):wpS M A E s (set st':StateT σ Sem PUnit) Q st:=by
 unfold wpS;rw [StateT.run_set];exact wpAny_pure ⟨rfl,h⟩
theorem wpS_mergeAt{st:SortSt}{i sa na pw nb pw2:Nat}{Q:Bool->SortSt->Prop}(hk:kindOf st=oneType')(hf:failedOf st=none)
  (h0:IntKeys (arrOf st)) (p1:(pendingOf st)[i]?=some (sa,na,pw)) (p2:(pendingOf st)[i+1]?=some (sa+na,nb,pw2))
  (hna:0 < na) (hnb:0 < nb) (hb:sa+na+nb <= (arrOf st).size)
  (sA:SoSeg (arrOf st) sa (sa+na)) (sB:SoSeg (arrOf st) (sa+na) (sa+na+nb))
  (h:∀ st',kindOf st'=oneType'->failedOf st'=none->(arrOf st').Perm (arrOf st)->
   pendingOf st'=((pendingOf st).setIfInBounds i (sa,na+nb,pw)).eraseIdxIfInBounds (i+1)->
   SoSeg (arrOf st') sa (sa+na+nb)->(∀ j,j < sa \/ sa+na+nb <= j->(arrOf st')[j]?=(arrOf st)[j]?)->Q true st'):
  wpS (model prog w) A E s (mergeAt' i) Q st:=by
 rcases st with ⟨κ,xs,pend,mg,fl⟩
 dsimp only [arrOf,kindOf,failedOf,pendingOf] at hk hf h0 p1 p2 hb sA sB h
 refine wpS_bind (wpS_get ?_)
 dsimp only
 rw [p1,p2]
 dsimp only
 refine wpS_bind (wpS_set ?_)
 obtain ⟨tb,qb,eb⟩:=h0.at (i:=sa+na) (by omega)
 refine wpS_bind (wpS_elem eb ?_)
 refine wpS_bind (wpS_gallop hk h0 (by omega) hna (fun i j h1 h2=>sA _ _ (by omega) (by omega) (by omega)) fun k hk1 hk2 hk3=>?_)
 dsimp only
 by_cases hnk:na - k=0
 ·rw [if_pos (by simpa using hnk)]
  refine wpS_pure (h _ hk hf (Array.Perm.refl _) rfl (sA.join sB fun _ _=>?_) fun _ _=>rfl)
  have q1:=hk2 (na - 1) (by omega)
  rw [show sa+(na - 1)=sa+na - 1 by omega] at q1
  simp [sogB] at q1
  exact q1
 rw [if_neg (by simpa using hnk)]
 rw [show sa+k+(na - k) - 1=sa+na - 1 by omega]
 obtain ⟨ta,qa,ea⟩:=h0.at (i:=sa+na - 1) (by omega)
 refine wpS_bind (wpS_elem ea ?_)
 refine wpS_bind (wpS_gallop hk h0 (by omega) (by omega) (fun i j h1 h2=>sB _ _ (by omega) (by omega) (by omega)) fun n1 hn1 hn2 hn3=>?_)
 dsimp only
 have g2:∀ j,n1 <= j->j < nb->K xs (sa+na - 1) <= K xs (sa+na+j):=by
  intro j j1 j2
  have q1:=hn3 j j1 j2
  simp [sogB] at q1
  exact q1
 by_cases hn0:n1=0
 ·rw [if_pos (by simpa using hn0)]
  refine wpS_pure (h _ hk hf (Array.Perm.refl _) rfl (sA.join sB fun _ _=>?_) fun _ _=>rfl)
  exact g2 0 (by omega) hnb
 rw [if_neg (by simpa using hn0)]
 have g1:∀ i,sa <= i->i < sa+k->K xs i <= K xs (sa+na):=by
  intro i i1 i2
  have q1:=hk2 (i - sa) (by omega)
  rw [show sa+(i - sa)=i by omega] at q1
  simp [sogB] at q1
  exact q1
 have hsx:(xs.extract (sa+k) (sa+na)).size=na - k:=by rw [Array.size_extract];omega
 have hsy:(xs.extract (sa+na) (sa+na+n1)).size=n1:=by rw [Array.size_extract];omega
 have ksa:∀ i j,i <= j->j < (xs.extract (sa+k) (sa+na)).size->K (xs.extract (sa+k) (sa+na)) i <= K (xs.extract (sa+k) (sa+na)) j:=by
  intro i j hij hj
  rw [SoK_extract (by omega) (by omega),SoK_extract (by omega) (by omega)]
  exact sA _ _ (by omega) (by omega) (by omega)
 have ksb:∀ i j,i <= j->j < (xs.extract (sa+na) (sa+na+n1)).size->K (xs.extract (sa+na) (sa+na+n1)) i <= K (xs.extract (sa+na) (sa+na+n1)) j:=by
  intro i j hij hj
  rw [SoK_extract (by omega) (by omega),SoK_extract (by omega) (by omega)]
  exact sB _ _ (by omega) (by omega) (by omega)
 have kf:∀ i,i < (xs.extract (sa+k) (sa+na)).size->K (xs.extract (sa+na) (sa+na+n1)) 0 <= K (xs.extract (sa+k) (sa+na)) i:=by
  intro i hi
  rw [SoK_extract (by omega) (by omega),SoK_extract (by omega) (by omega)]
  have q1:=hk3 (k+i) (by omega) (by omega)
  rw [show sa+(k+i)=sa+k+i by omega] at q1
  simp [sogB] at q1
  simp only [Nat.add_zero]
  omega
 have kl:∀ j,j < (xs.extract (sa+na) (sa+na+n1)).size->K (xs.extract (sa+na) (sa+na+n1)) j <=
   K (xs.extract (sa+k) (sa+na)) ((xs.extract (sa+k) (sa+na)).size - 1):=by
  intro j hj
  rw [SoK_extract (by omega) (by omega),SoK_extract (by omega) (by omega),hsx,show sa+k+(na - k - 1)=sa+na - 1 by omega]
  have q1:=hn2 j (by omega)
  simp [sogB] at q1
  omega
 have fin:∀ r st',SoSG (SortSt.mk' κ xs ((pend.setIfInBounds i (sa,na+nb,pw)).eraseIdxIfInBounds (i+1)) mg fl) st'->
   SoGood ((xs.extract (sa+k) (sa+na)).toList++(xs.extract (sa+na) (sa+na+n1)).toList) r->
   wpS (model prog w) A E s (do
    modify fun s=>setArr s (soputAt (arrOf s) (sa+k) r.toList.zipIdx)
    return (failedOf (<- get)).isNone) Q st':=by
  rintro r st' ⟨e1,e2,e3,e4⟩ hr
  refine wpS_bind (wpS_modify (wpS_bind (wpS_get (wpS_pure ?_))))
  have ef:failedOf st'=none:=e4.trans hf
  have ea:arrOf st'=xs:=e2
  obtain ⟨m1,m2,m3⟩:=somerged_seg (nb:=nb) (k:=k) (by omega) (by omega) hn1 hb sA sB (by omega) (by omega) g1 g2 hr
  rw [<- ea] at m1 m2 m3
  have:=h (setArr st' (soputAt (arrOf st') (sa+k) r.toList.zipIdx)) (e1.trans hk) ef (by rw [ea] at m1 ⊢;exact m1) e3 m2 (fun j hj=>by rw [<- ea];exact m3 j hj)
  show Q (Option.isNone (failedOf st')) _
  rw [ef]
  exact this
 by_cases hle:na - k <= n1
 ·rw [if_pos hle]
  exact wpS_bind (wpS_mergeLo hk h0.extract h0.extract (by omega) (by omega) ksa ksb kf kl fin)
 ·rw [if_neg hle]
  exact wpS_bind (wpS_mergeHi hk h0.extract h0.extract (by omega) (by omega) ksa ksb kf kl fin)
end
end PyProof.Rows
namespace PyProof.Rows
set_option autoImplicit false
open PySem
structure SoMv(lo hi:Nat)(st st':SortSt):Prop where
 kind:kindOf st'=kindOf st
 failed:failedOf st'=failedOf st
 pend:pendingOf st'=pendingOf st
 perm:(arrOf st').Perm (arrOf st)
 out:∀ j,j < lo \/ hi <= j->(arrOf st')[j]?=(arrOf st)[j]?
theorem SoMv.refl(lo hi:Nat)(st:SortSt):SoMv lo hi st st:=⟨rfl,rfl,rfl,Array.Perm.refl _,fun _ _=>rfl⟩
theorem SoMv.size{lo hi:Nat}{st st':SortSt}(h:SoMv lo hi st st'):(arrOf st').size=(arrOf st).size:=h.perm.size_eq
theorem SoMv.trans{lo hi:Nat}{st st' st'':SortSt}(h:SoMv lo hi st st')(g:SoMv lo hi st' st''):SoMv lo hi st st'':=
 ⟨g.kind.trans h.kind,g.failed.trans h.failed,g.pend.trans h.pend,g.perm.trans h.perm,fun j hj=>(g.out j hj).trans (h.out j hj)⟩
theorem SoMv.arr{lo hi:Nat}{st:SortSt}{ys:Array Keyed}(hp:ys.Perm (arrOf st))(ho:∀ j,j < lo \/ hi <= j->ys[j]?=(arrOf st)[j]?):SoMv lo hi st (setArr st ys):=
 ⟨rfl,rfl,rfl,hp,ho⟩
theorem IntKeys.perm{xs ys:Array Keyed}(h:IntKeys xs)(p:ys.Perm xs):IntKeys ys:=
 fun q hq=>h q ((Array.perm_iff_toList_perm.mp p).mem_iff.mp hq)
section
variable {prog:Program} {w:World} {A:Around} {E:Value->Shared->Prop} {s:Shared}
theorem wpS_ltI{st:SortSt}{i j:Nat}{Q:Option Bool->SortSt->Prop}(hk:kindOf st=oneType')(h0:IntKeys (arrOf st))(hi:i < (arrOf st).size)(hj:j < (arrOf st).size)
  (h:Q (some (decide (K (arrOf st) i < K (arrOf st) j))) st):wpS (model prog w) A E s (ltAt' i j) Q st:=by
 obtain ⟨t,p,e1⟩:=h0.at hi
 obtain ⟨u,q,e2⟩:=h0.at hj
 exact wpS_ltAt hk e1 e2 h
theorem wpS_down{st:SortSt}{i j:Nat}{Q:Unit->SortSt->Prop}(h:Q () (setArr st (bubble (arrOf st) i (i - j)))):wpS (model prog w) A E s (moveDown' i j) Q st:=by
 rw [moveDown'_eq];exact wpS_modify h
theorem wpS_binAt{st:SortSt}{lo n ok:Nat}{Q:Bool->SortSt->Prop}(hk:kindOf st=oneType')(h0:IntKeys (arrOf st))(hn:lo+n <= (arrOf st).size)(hok:ok <= n)
  (hs:SoSeg (arrOf st) lo (lo+ok)) (h:∀ st',SoMv lo (lo+n) st st'->SoSeg (arrOf st') lo (lo+n)->Q true st'):
  wpS (model prog w) A E s (binarySort' lo n ok) Q st:=by
 refine wpS_bind (wpS_mono (wpS_forRange (I:=fun k c st'=>c=(none,()) /\ SoMv lo (lo+n) st st' /\ SoSeg (arrOf st') lo (lo+min k n))
  (Q:=fun c st'=>c=(none,()) /\ SoMv lo (lo+n) st st' /\ SoSeg (arrOf st') lo (lo+n)) ?step ?fin ?init) ?post)
 case post=>
  rintro c st' ⟨rfl,hM,hs'⟩
  exact wpS_pure (h st' hM hs')
 case init=>
  refine ⟨rfl,SoMv.refl _ _ _,fun i j hi hij hj=>?_⟩
  by_cases h1:ok=0
  ·have:i=j:=by omega
   subst this;exact Int.le_refl _
  ·exact hs i j hi hij (by omega)
 case fin=>
  rintro c st' ⟨hc,hM,hs'⟩
  refine ⟨hc,hM,?_⟩
  rwa [show min (max (max ok 1) n) n=n by omega] at hs'
 case step=>
  rintro k c st' hak hkn ⟨rfl,hM,hs'⟩
  rw [show min k n=k by omega] at hs'
  have hz:=hM.size
  have h0':=h0.perm hM.perm
  refine wpS_bind (wpS_mono (wpS_forRange (I:=fun x c st''=>st''=st' /\ ∃ l r,c=(none,l,r) /\ l <= r /\ r <= k /\ r - l <= k - x /\
    (∀ i,lo <= i->i < lo+l->K (arrOf st') i <= K (arrOf st') (lo+k)) /\ (∀ i,lo+r <= i->i < lo+k->K (arrOf st') (lo+k) < K (arrOf st') i))
   (Q:=fun c st''=>st''=st' /\ ∃ l r,c=(none,l,r) /\ l <= k /\
    (∀ i,lo <= i->i < lo+l->K (arrOf st') i <= K (arrOf st') (lo+k)) /\ (∀ i,lo+l <= i->i < lo+k->K (arrOf st') (lo+k) < K (arrOf st') i)) ?istep ?ifin ?iinit) ?ipost)
  case iinit=>exact ⟨rfl,0,k,rfl,by omega,by omega,by omega,fun i hi hj=>by omega,fun i h1 h2=>by omega⟩
  case ifin=>
   rintro c st'' ⟨rfl,l,r,rfl,hlr,hrk,hm,hlo,hhi⟩
   have:l=r:=by omega
   subst this
   exact ⟨rfl,l,l,rfl,hrk,hlo,hhi⟩
  case istep=>
   rintro x c st'' _ hxk ⟨rfl,l,r,rfl,hlr,hrk,hm,hlo,hhi⟩
   dsimp only
   by_cases hge:l >= r
   ·rw [if_pos hge]
    have:l=r:=by omega
    subst this
    exact wpS_pure ⟨rfl,l,l,rfl,hrk,hlo,hhi⟩
   ·rw [if_neg hge]
    refine wpS_bind (wpS_ltI (hM.kind.trans hk) h0' (by omega) (by omega) ?_)
    by_cases hless:K (arrOf st'') (lo+k) < K (arrOf st'') (lo+(l+r) / 2)
    ·simp only [hless,decide_true,if_true]
     refine wpS_pure ⟨rfl,l,(l+r) / 2,rfl,by omega,by omega,by omega,hlo,fun i h1 h2=>?_⟩
     exact Int.lt_of_lt_of_le hless (hs' _ _ (by omega) h1 h2)
    ·simp only [hless,decide_false,Bool.false_eq_true,if_false]
     refine wpS_pure ⟨rfl,(l+r) / 2+1,r,rfl,by omega,by omega,by omega,fun i h1 h2=>?_,hhi⟩
     exact Int.le_trans (hs' i (lo+(l+r) / 2) h1 (by omega) (by omega)) (Int.not_lt.mp hless)
  case ipost=>
   rintro c st'' ⟨rfl,l,r,rfl,hlk,hlo,hhi⟩
   dsimp only
   refine wpS_bind (wpS_down (wpS_pure ⟨rfl,hM.trans (SoMv.arr (bubble_perm _ _ _) ?_),?_⟩))
   ·intro j hj
    rw [getElem?_bubble (by omega) _ (by omega),if_neg (by omega),if_neg (by omega)]
   ·rw [show min (k+1) n=k+1 by omega]
    intro i j hi hij hj
    show K (bubble (arrOf st'') (lo+k) (lo+k - (lo+l))) i <= K (bubble (arrOf st'') (lo+k) (lo+k - (lo+l))) j
    rw [K_bubble (by omega) (by omega),K_bubble (by omega) (by omega),show lo+k - (lo+k - (lo+l))=lo+l by omega]
    repeat' split
    all_goals first
     | (exfalso;omega)
     | exact Int.le_refl _
     | exact hlo _ (by omega) (by omega)
     | exact Int.le_of_lt (hhi _ (by omega) (by omega))
     | exact hs' _ _ (by omega) (by omega) (by omega)
end
end PyProof.Rows
namespace PyProof.Rows
set_option autoImplicit false
open PySem
def SoNI(xs:Array Keyed)(lo hi:Nat):Prop:=∀ i j,lo <= i->i <= j->j < hi->K xs j <= K xs i
theorem SoMv.mirror{lo hi i j:Nat}{st:SortSt}(h1:lo <= i)(h2:j <= hi)(hj:j <= (arrOf st).size):
  SoMv lo hi st (setArr st (mirror (arrOf st) i j ((j - i) / 2))):=
 SoMv.arr (mirror_perm _ _ _ _) fun k hk=>by rw [getElem?_mirror_all hj,if_neg (by omega)]
theorem SoNI.mirror{st:SortSt}{lo x:Nat}(hN:SoNI (arrOf st) lo (lo+x))(hz:lo+x <= (arrOf st).size):
  SoSeg (arrOf (setArr st (mirror (arrOf st) lo (lo+x) ((lo+x - lo) / 2)))) lo (lo+x):=by
 intro i j i1 hij hj
 show K (PyProof.Rows.mirror (arrOf st) _ _ _) i <= K (PyProof.Rows.mirror (arrOf st) _ _ _) j
 rw [K_mirror hz,K_mirror hz,if_pos (by omega),if_pos (by omega)]
 exact hN _ _ (by omega) (by omega) (by omega)
section
variable {prog:Program} {w:World} {A:Around} {E:Value->Shared->Prop} {s:Shared}
theorem wpS_cntAt{st:SortSt}{lo nrem:Nat}{Q:Option Nat->SortSt->Prop}(hk:kindOf st=oneType')(h0:IntKeys (arrOf st))(hn:lo+nrem <= (arrOf st).size)(h1:1 <= nrem)
  (h:∀ m st',SoMv lo (lo+nrem) st st'->1 <= m->m <= nrem->SoSeg (arrOf st') lo (lo+m)->Q (some m) st'):
  wpS (model prog w) A E s (countRun' lo nrem) Q st:=by
 refine wpS_bind (wpS_mono (wpS_forRange (I:=fun x c st'=>st'=st /\ c=(none,x) /\ SoSeg (arrOf st) lo (lo+x))
  (Q:=fun c st'=>st'=st /\ ∃ n,c=(none,n) /\ 1 <= n /\ n <= nrem /\ SoSeg (arrOf st) lo (lo+n) /\ (n=nrem \/ K (arrOf st) (lo+n) < K (arrOf st) (lo+n - 1))) ?step ?fin ?init) ?post)
 case init=>exact ⟨rfl,rfl,fun i j _ hij hj=>by have:i=j:=(by omega);subst this;exact Int.le_refl _⟩
 case fin=>
  rintro c st' ⟨rfl,rfl,hs'⟩
  rw [show max 1 nrem=nrem by omega] at hs' ⊢
  exact ⟨rfl,nrem,rfl,h1,Nat.le_refl _,hs',.inl rfl⟩
 case step=>
  rintro x c st' hax hxn ⟨rfl,rfl,hs'⟩
  dsimp only
  refine wpS_bind (wpS_ltI hk h0 (by omega) (by omega) ?_)
  by_cases hless:K (arrOf st') (lo+x) < K (arrOf st') (lo+x - 1)
  ·simp only [hless,decide_true,if_true]
   exact wpS_pure ⟨rfl,x,rfl,hax,by omega,hs',.inr hless⟩
  ·simp only [hless,decide_false,Bool.false_eq_true,if_false]
   refine wpS_pure ⟨rfl,rfl,?_⟩
   refine SoSeg.join (mid:=lo+x) hs' (fun i j _ _ _=>?_) fun _ _=>Int.not_lt.mp hless
   have:i=j:=by omega
   subst this;exact Int.le_refl _
 case post=>
  rintro c st' ⟨rfl,n,rfl,hn1,hn2,hs,hor⟩
  dsimp only
  by_cases hnn:n=nrem
  ·rw [if_pos (by simpa using hnn)]
   exact wpS_pure (h n _ (SoMv.refl _ _ _) hn1 hn2 hs)
  rw [if_neg (by simpa using hnn)]
  have hlt:=hor.resolve_left hnn
  by_cases hgt:n > 1
  rw [if_pos hgt]
  refine wpS_bind (wpS_ltI hk h0 (by omega) (by omega) ?_)
  by_cases hrose:K (arrOf st') lo < K (arrOf st') (lo+n - 1)
  ·simp only [hrose,decide_true,if_true]
   exact wpS_pure (h n _ (SoMv.refl _ _ _) hn1 hn2 hs)
  simp only [hrose,decide_false,Bool.false_eq_true,if_false]
  have hall:∀ k,lo <= k->k < lo+n->K (arrOf st') k=K (arrOf st') (lo+n - 1):=by
   intro k k1 k2
   have a1:=hs lo k (Nat.le_refl _) k1 k2
   have a2:=hs k (lo+n - 1) k1 (by omega) (by omega)
   omega
  refine wpS_bind (wpS_reverse ?_)
  have hM1:SoMv lo (lo+nrem) st' (setArr st' (mirror (arrOf st') lo (lo+n) ((lo+n - lo) / 2))):=SoMv.mirror (Nat.le_refl _) (by omega) (by omega)
  have hN1:SoNI (arrOf (setArr st' (mirror (arrOf st') lo (lo+n) ((lo+n - lo) / 2)))) lo (lo+(n+1)):=by
   intro i j i1 hij hj
   show K (mirror (arrOf st') _ _ _) j <= K (mirror (arrOf st') _ _ _) i
   rw [K_mirror_equal (by omega) hall,K_mirror_equal (by omega) hall]
   by_cases hjn:j < lo+n
   ·rw [hall i i1 (by omega),hall j (by omega) hjn];exact Int.le_refl _
   ·have hj':j=lo+n:=by omega
    subst hj'
    by_cases hi':i=lo+n
    ·subst hi';exact Int.le_refl _
    ·rw [hall i i1 (by omega)];exact Int.le_of_lt hlt
  generalize setArr st' (mirror (arrOf st') lo (lo+n) ((lo+n - lo) / 2))=st1 at hM1 hN1 ⊢
  rotate_left
  rw [if_neg hgt]
  have hM1:SoMv lo (lo+nrem) st' st':=SoMv.refl _ _ _
  have hN1:SoNI (arrOf st') lo (lo+(n+1)):=by
   intro i j i1 hij hj
   by_cases hi':i=j
   ·subst hi';exact Int.le_refl _
   ·have e1:i=lo+n - 1:=by omega
    have e2:j=lo+n:=by omega
    subst e1;subst e2
    exact Int.le_of_lt hlt
  all_goals
   refine wpS_bind (wpS_lift (wpAny_rule ⟨rfl,?_⟩))
   refine wpS_bind (wpS_mono (wpS_forRange
    (I:=fun x c st2=>∃ neq,c=(none,x,neq) /\ SoMv lo (lo+nrem) st' st2 /\ SoNI (arrOf st2) lo (lo+x) /\ neq+1 <= x /\
     (∀ i,lo+x - (neq+1) <= i->i < lo+x->K (arrOf st2) i=K (arrOf st2) (lo+x - 1)))
    (Q:=fun c st2=>∃ x neq,c=(none,x,neq) /\ SoMv lo (lo+nrem) st' st2 /\ SoNI (arrOf st2) lo (lo+x) /\ 1 <= x /\ x <= nrem /\ neq+1 <= x /\
     (∀ i,lo+x - (neq+1) <= i->i < lo+x->K (arrOf st2) i=K (arrOf st2) (lo+x - 1))) ?dstep ?dfin ?dinit) ?dpost)
   case dinit=>exact ⟨0,rfl,hM1,hN1,by omega,fun i i1 i2=>by congr 1;omega⟩
   case dfin=>
    rintro c st2 ⟨neq,rfl,hM2,hN2,hq,he⟩
    rw [show max (n+1) nrem=nrem by omega] at hN2 hq he ⊢
    exact ⟨nrem,neq,rfl,hM2,hN2,h1,Nat.le_refl _,hq,he⟩
   case dstep=>
    rintro x c st2 hax hxn ⟨neq,rfl,hM2,hN2,hq,he⟩
    dsimp only
    have hz:=hM2.size
    have h02:=h0.perm hM2.perm
    refine wpS_bind (wpS_ltI (hM2.kind.trans hk) h02 (by omega) (by omega) ?_)
    by_cases hless:K (arrOf st2) (lo+x) < K (arrOf st2) (lo+x - 1)
    ·simp only [hless,decide_true,if_true]
     have step1:∀ ys:Array Keyed,(∀ k,K ys k=K (arrOf st2) k)->SoNI ys lo (lo+(x+1)):=by
      intro ys hy i j i1 hij hj
      rw [hy,hy]
      by_cases hjx:j < lo+x
      ·exact hN2 i j i1 hij hjx
      ·have hj':j=lo+x:=by omega
       subst hj'
       by_cases hi':i=lo+x
       ·subst hi';exact Int.le_refl _
       ·have:=hN2 i (lo+x - 1) i1 (by omega) (by omega);omega
     by_cases hneq:neq > 0
     ·rw [if_pos hneq]
      refine wpS_bind (wpS_reverse (wpS_pure ⟨0,rfl,hM2.trans (SoMv.mirror (by omega) (by omega) (by omega)),step1 _ (K_mirror_equal (by omega) he),by omega,fun i i1 i2=>by congr 1;omega⟩))
     ·rw [if_neg hneq]
      exact wpS_pure ⟨0,rfl,hM2,step1 _ (fun _=>rfl),by omega,fun i i1 i2=>by congr 1;omega⟩
    ·simp only [hless,decide_false,Bool.false_eq_true,if_false]
     refine wpS_bind (wpS_ltI (hM2.kind.trans hk) h02 (by omega) (by omega) ?_)
     by_cases hlarger:K (arrOf st2) (lo+x - 1) < K (arrOf st2) (lo+x)
     ·simp only [hlarger,decide_true,if_true]
      exact wpS_pure ⟨x,neq,rfl,hM2,hN2,by omega,by omega,hq,he⟩
     ·simp only [hlarger,decide_false,Bool.false_eq_true,if_false]
      have heqx:K (arrOf st2) (lo+x)=K (arrOf st2) (lo+x - 1):=by omega
      refine wpS_pure ⟨neq+1,rfl,hM2,fun i j i1 hij hj=>?_,by omega,fun i i1 i2=>?_⟩
      ·by_cases hjx:j < lo+x
       ·exact hN2 i j i1 hij hjx
       ·have hj':j=lo+x:=by omega
        subst hj'
        by_cases hi':i=lo+x
        ·subst hi';exact Int.le_refl _
        ·rw [heqx];exact hN2 i (lo+x - 1) i1 (by omega) (by omega)
      ·rw [show lo+(x+1) - 1=lo+x by omega]
       by_cases hix:i=lo+x
       ·subst hix;rfl
       ·rw [heqx];exact he i (by omega) (by omega)
   case dpost=>
    rintro c st2 ⟨x,neq,rfl,hM2,hN2,hx1,hx2,hq,he⟩
    dsimp only
    have hz:=hM2.size
    by_cases hneq:neq > 0
    rw [if_pos hneq]
    refine wpS_bind (wpS_reverse ?_)
    have hM3:SoMv lo (lo+nrem) st' (setArr st2 (mirror (arrOf st2) (lo+x - (neq+1)) (lo+x) ((lo+x - (lo+x - (neq+1))) / 2))):=
     hM2.trans (SoMv.mirror (by omega) (by omega) (by omega))
    have hN3:SoNI (arrOf (setArr st2 (mirror (arrOf st2) (lo+x - (neq+1)) (lo+x) ((lo+x - (lo+x - (neq+1))) / 2)))) lo (lo+x):=by
     intro i j i1 hij hj
     show K (mirror (arrOf st2) _ _ _) j <= K (mirror (arrOf st2) _ _ _) i
     rw [K_mirror_equal (by omega) he,K_mirror_equal (by omega) he]
     exact hN2 i j i1 hij hj
    generalize setArr st2 (mirror (arrOf st2) (lo+x - (neq+1)) (lo+x) ((lo+x - (lo+x - (neq+1))) / 2))=st3 at hM3 hN3 ⊢
    rotate_left
    rw [if_neg hneq]
    have hM3:=hM2
    have hN3:=hN2
    generalize st2=st3 at hM3 hN3 ⊢
    all_goals
     have hz3:=hM3.size
     refine wpS_bind (wpS_reverse ?_)
     have hM4:=hM3.trans (SoMv.mirror (hi:=lo+nrem) (i:=lo) (j:=lo+x) (Nat.le_refl _) (by omega) (by omega))
     have hz4:=hM4.size
     have h04:=h0.perm hM4.perm
     have hs4:=hN3.mirror (by omega)
     revert hM4 hs4 hz4 h04
     generalize setArr st3 (mirror (arrOf st3) lo (lo+x) ((lo+x - lo) / 2))=st4
     intro hM4 hz4 h04 hs4
     refine wpS_bind (wpS_mono (wpS_forRange (I:=fun y c st5=>st5=st4 /\ c=(none,y) /\ SoSeg (arrOf st4) lo (lo+y))
      (Q:=fun c st5=>st5=st4 /\ ∃ m,c=(none,m) /\ 1 <= m /\ m <= nrem /\ SoSeg (arrOf st4) lo (lo+m)) ?astep ?afin ⟨rfl,rfl,hs4⟩) ?apost)
     case afin=>
      rintro c st5 ⟨rfl,rfl,hs5⟩
      rw [show max x nrem=nrem by omega] at hs5 ⊢
      exact ⟨rfl,nrem,rfl,h1,Nat.le_refl _,hs5⟩
     case apost=>
      rintro c st5 ⟨rfl,m,rfl,m1,m2,hs5⟩
      exact wpS_pure (h m _ hM4 m1 m2 hs5)
     case astep=>
      rintro y c st5 hay hyn ⟨rfl,rfl,hs5⟩
      dsimp only
      refine wpS_bind (wpS_ltI (hM4.kind.trans hk) h04 (by omega) (by omega) ?_)
      by_cases hless:K (arrOf st5) (lo+y) < K (arrOf st5) (lo+y - 1)
      ·simp only [hless,decide_true,if_true]
       exact wpS_pure ⟨rfl,y,rfl,by omega,by omega,hs5⟩
      ·simp only [hless,decide_false,Bool.false_eq_true,if_false]
       refine wpS_pure ⟨rfl,rfl,?_⟩
       refine SoSeg.join (mid:=lo+y) hs5 (fun i j _ _ _=>?_) fun _ _=>Int.not_lt.mp hless
       have:i=j:=by omega
       subst this;exact Int.le_refl _
end
end PyProof.Rows
namespace PyProof.Rows
set_option autoImplicit false
open PySem
def SoChain(xs:Array Keyed):Nat->List (Nat × Nat × Nat)->Nat->Prop
 | f,[],t=>f=t
 | f,(a,n,_) :: l,t=>a=f /\ 0 < n /\ SoSeg xs f (f+n) /\ SoChain xs (f+n) l t
theorem SoSeg.congr{xs ys:Array Keyed}{lo hi:Nat}(h:SoSeg xs lo hi)(e:∀ j,lo <= j->j < hi->ys[j]?=xs[j]?):SoSeg ys lo hi:=by
 intro i j i1 hij hj
 rw [K_congr (e i i1 (by omega)),K_congr (e j (by omega) hj)]
 exact h i j i1 hij hj
theorem SoChain.le{xs:Array Keyed}:∀ {f:Nat} {l:List (Nat × Nat × Nat)} {t:Nat},SoChain xs f l t->f+l.length <= t
 | f,[],t,h=>by cases h;simp
 | f,(a,n,p) :: l,t,h=>by
  have:=SoChain.le h.2.2.2
  have h2:=h.2.1
  rw [List.length_cons];omega
theorem SoChain.congr{xs ys:Array Keyed}:∀ {f:Nat} {l:List (Nat × Nat × Nat)} {t:Nat},SoChain xs f l t->(∀ j,f <= j->j < t->ys[j]?=xs[j]?)->SoChain ys f l t
 | f,[],t,h,e=>h
 | f,(a,n,p) :: l,t,h,e=>by
  have hle:=SoChain.le h.2.2.2
  exact ⟨h.1,h.2.1,h.2.2.1.congr fun j j1 j2=>e j j1 (by omega),SoChain.congr h.2.2.2 fun j j1 j2=>e j (by omega) j2⟩
theorem SoChain.snoc{xs:Array Keyed}{n q:Nat}:∀ {f:Nat} {l:List (Nat × Nat × Nat)} {t:Nat},SoChain xs f l t->0 < n->SoSeg xs t (t+n)->SoChain xs f (l++[(t,n,q)]) (t+n)
 | f,[],t,h,hn,hs=>by cases h;exact ⟨rfl,hn,hs,rfl⟩
 | f,(a,m,p) :: l,t,h,hn,hs=>⟨h.1,h.2.1,h.2.2.1,SoChain.snoc h.2.2.2 hn hs⟩
theorem SoChain.modify{xs:Array Keyed}{g:Nat × Nat × Nat->Nat × Nat × Nat}(hg:∀ t,(g t).1=t.1 /\ (g t).2.1=t.2.1):
  ∀ {f:Nat} {l:List (Nat × Nat × Nat)} {t:Nat} (i:Nat),SoChain xs f l t->SoChain xs f (l.modify i g) t
 | f,[],t,i,h=>by simpa using h
 | f,(a,n,p) :: l,t,0,h=>by
  obtain ⟨g1,g2⟩:=hg (a,n,p)
  rw [List.modify_zero_cons]
  rcases hq:g (a,n,p) with ⟨a',n',p'⟩
  rw [hq] at g1 g2
  simp only at g1 g2
  subst g1;subst g2
  exact h
 | f,(a,n,p) :: l,t,i+1,h=>by
  rw [List.modify_succ_cons]
  exact ⟨h.1,h.2.1,h.2.2.1,SoChain.modify hg i h.2.2.2⟩
theorem SoChain.merge{xs:Array Keyed}{sa na pw sb nb pw2:Nat}:∀ {f:Nat} {l:List (Nat × Nat × Nat)} {t:Nat} (i:Nat),SoChain xs f l t->
  l[i]?=some (sa,na,pw)->l[i+1]?=some (sb,nb,pw2)->
  sb=sa+na /\ 0 < na /\ 0 < nb /\ f <= sa /\ sa+na+nb <= t /\ SoSeg xs sa (sa+na) /\ SoSeg xs (sa+na) (sa+na+nb) /\
  ∀ ys:Array Keyed,(∀ j,j < sa \/ sa+na+nb <= j->ys[j]?=xs[j]?)->SoSeg ys sa (sa+na+nb)->SoChain ys f ((l.set i (sa,na+nb,pw)).eraseIdx (i+1)) t
 | f,[],t,i,h,e1,e2=>by simp at e1
 | f,[x],t,0,h,e1,e2=>by simp at e2
 | f,(a,n,p) :: (a2,n2,p2) :: l,t,0,h,e1,e2=>by
  simp only [List.getElem?_cons_zero,List.getElem?_cons_succ,Option.some.injEq,Prod.mk.injEq] at e1 e2
  obtain ⟨rfl,rfl,rfl⟩:=e1
  obtain ⟨rfl,rfl,rfl⟩:=e2
  obtain ⟨rfl,hn,s1,⟨rfl,hn2,s2,hc⟩⟩:=h
  refine ⟨rfl,hn,hn2,Nat.le_refl _,by have:=hc.le;omega,s1,s2,fun ys ho hs=>?_⟩
  refine ⟨rfl,by omega,by rwa [<- Nat.add_assoc],?_⟩
  rw [<- Nat.add_assoc]
  exact hc.congr fun j j1 _=>ho j (.inr j1)
 | f,(a,n,p) :: l,t,i+1,h,e1,e2=>by
  rw [List.getElem?_cons_succ] at e1 e2
  obtain ⟨r1,r2,r3,r4,r5,r6,r7,r8⟩:=SoChain.merge i h.2.2.2 e1 e2
  refine ⟨r1,r2,r3,by omega,r5,r6,r7,fun ys ho hs=>?_⟩
  rw [List.set_cons_succ,List.eraseIdx_cons_succ]
  exact ⟨h.1,h.2.1,h.2.2.1.congr fun j j1 j2=>ho j (.inl (by omega)),r8 ys ho hs⟩
section
variable {prog:Program} {w:World} {A:Around} {E:Value->Shared->Prop} {s:Shared} {a₀:Array Keyed}
structure SoTB(a₀:Array Keyed)(st:SortSt):Prop where
 kind:kindOf st=oneType'
 failed:failedOf st=none
 perm:(arrOf st).Perm a₀
theorem wpS_mergeC{st:SortSt}{i f t:Nat}{Q:Bool->SortSt->Prop}(h0:IntKeys a₀)(hB:SoTB a₀ st)(hi:i+1 < (pendingOf st).size)(ht:t <= a₀.size)
  (hc:SoChain (arrOf st) f (pendingOf st).toList t)
  (h:∀ st',SoTB a₀ st'->SoChain (arrOf st') f (pendingOf st').toList t->(pendingOf st').size+1=(pendingOf st).size->(∀ j,t <= j->(arrOf st')[j]?=(arrOf st)[j]?)->Q true st'):
  wpS (model prog w) A E s (mergeAt' i) Q st:=by
 obtain ⟨⟨sa,na,pw⟩,e1⟩:∃ x,(pendingOf st)[i]?=some x:=⟨_,getElem?_pos _ i (by omega)⟩
 obtain ⟨⟨sb,nb,pw2⟩,e2⟩:∃ x,(pendingOf st)[i+1]?=some x:=⟨_,getElem?_pos _ (i+1) hi⟩
 obtain ⟨rfl,r2,r3,r4,r5,r6,r7,r8⟩:=hc.merge i (by rw [Array.getElem?_toList];exact e1) (by rw [Array.getElem?_toList];exact e2)
 have hz:=hB.perm.size_eq
 refine wpS_mergeAt hB.kind hB.failed (h0.perm hB.perm) e1 e2 r2 r3 (by omega) r6 r7 fun st' k1 k2 k3 k4 k5 k6=>?_
 refine h st' ⟨k1,k2,k3.trans hB.perm⟩ ?_ ?_ fun j hj=>k6 j (.inr (by omega))
 ·rw [k4]
  have:=r8 (arrOf st') k6 k5
  simpa using this
 ·rw [k4,<- Array.length_toList,<- Array.length_toList]
  have hi':i+1 < (pendingOf st).toList.length:=by simpa using hi
  simp only [Array.toList_eraseIdxIfInBounds,Array.toList_setIfInBounds,List.length_eraseIdx,List.length_set]
  rw [if_pos hi']
  omega
theorem wpS_sortAll{st:SortSt}{Q:Unit->SortSt->Prop}(h0:IntKeys a₀)(hB:SBase a₀ st)(h2:2 <= a₀.size)
  (h:∀ st',(arrOf st').Perm a₀->failedOf st'=none->SortedTo (arrOf st') a₀.size->Q () st'):wpS (model prog w) A E s sortRuns' Q st:=by
 refine wpS_bind (wpS_get ?_)
 dsimp only
 have hsz:(arrOf st).size=a₀.size:=hB.size
 rw [show ((sortPriv% PySem.Builtin.SortState.a) st).size=a₀.size from hsz]
 refine wpS_bind (wpS_mono (wpS_forRange
  (I:=fun x c st'=>∃ lo,c=(none,lo) /\ x <= lo /\ lo <= a₀.size /\ SoTB a₀ st' /\ SoChain (arrOf st') 0 (pendingOf st').toList lo)
  (Q:=fun c st'=>c=(none,a₀.size) /\ SoTB a₀ st' /\ SoChain (arrOf st') 0 (pendingOf st').toList a₀.size) ?step ?fin ?init) ?post)
 case init=>
  refine ⟨0,rfl,by omega,by omega,⟨hB.kind,hB.failed,hB.perm⟩,?_⟩
  rw [hB.pend];rfl
 case fin=>
  rintro c st' ⟨lo,rfl,x1,x2,hT,hC⟩
  have:lo=a₀.size:=by omega
  subst this
  exact ⟨rfl,hT,hC⟩
 case step=>
  rintro x c st' _ hx ⟨lo,rfl,x1,x2,hT,hC⟩
  dsimp only
  by_cases hge:lo >= a₀.size
  ·rw [if_pos hge]
   have:lo=a₀.size:=by omega
   subst this
   exact wpS_pure ⟨rfl,hT,hC⟩
  rw [if_neg hge]
  have hz:=hT.perm.size_eq
  refine wpS_bind (wpS_cntAt hT.kind (h0.perm hT.perm) (by omega) (by omega) fun m st2 hM m1 m2 hs2=>?_)
  dsimp only
  have hz2:=hM.size
  have hT2:SoTB a₀ st2:=⟨hM.kind.trans hT.kind,hM.failed.trans hT.failed,hM.perm.trans hT.perm⟩
  have hC2:SoChain (arrOf st2) 0 (pendingOf st2).toList lo:=by
   rw [hM.pend];exact hC.congr fun j _ j2=>hM.out j (.inl j2)
  generalize (sortPriv% PySem.Builtin.minRun) a₀.size a₀.size 0=mr
  by_cases hlt:m < mr
  ·rw [if_pos hlt]
   refine wpS_bind (wpS_lift (wpAny_rule ⟨rfl,?_⟩))
   refine wpS_bind (wpS_binAt hT2.kind (h0.perm hT2.perm) (by omega) (by omega) hs2 fun st3 hM3 hs3=>?_)
   simp only [Bool.not_true,Bool.false_eq_true,if_false]
   refine wpS_bind (wpS_get ?_)
   have hT3:SoTB a₀ st3:=⟨hM3.kind.trans hT2.kind,hM3.failed.trans hT2.failed,hM3.perm.trans hT2.perm⟩
   have hC3:SoChain (arrOf st3) 0 (pendingOf st3).toList lo:=by
    rw [hM3.pend];exact hC2.congr fun j _ j2=>hM3.out j (.inl j2)
   have n1:1 <= min (a₀.size - lo) mr:=by omega
   have n2:lo+min (a₀.size - lo) mr <= a₀.size:=by omega
   generalize min (a₀.size - lo) mr=n3 at hs3 n1 n2 ⊢
   rcases hb:((sortPriv% PySem.Builtin.SortState.pending) st3).back? with _ | ⟨s1,k1,q1⟩
   ·dsimp only
    refine wpS_bind (wpS_modify (wpS_pure ⟨lo+n3,rfl,by omega,n2,⟨hT3.kind,hT3.failed,hT3.perm⟩,?_⟩))
    show SoChain (arrOf st3) 0 ((pendingOf st3).push (lo,n3,0)).toList (lo+n3)
    rw [Array.toList_push]
    exact hC3.snoc n1 hs3
   ·dsimp only
    generalize (sortPriv% PySem.Builtin.power) a₀.size (2*s1+k1) (2*s1+k1+k1+n3) a₀.size=pw
    refine wpS_bind (wpS_mono (wpS_forRange
     (I:=fun y c st4=>c=(none,()) /\ SoTB a₀ st4 /\ SoChain (arrOf st4) 0 (pendingOf st4).toList lo /\ SoSeg (arrOf st4) lo (lo+n3))
     (Q:=fun c st4=>c=(none,()) /\ SoTB a₀ st4 /\ SoChain (arrOf st4) 0 (pendingOf st4).toList lo /\ SoSeg (arrOf st4) lo (lo+n3)) ?mstep ?mfin ?minit) ?mpost)
    case minit=>exact ⟨rfl,hT3,hC3,hs3⟩
    case mfin=>exact fun c st4 hh=>hh
    case mpost=>
     rintro c st4 ⟨rfl,hT4,hC4,hs4⟩
     dsimp only
     refine wpS_bind (wpS_modify (wpS_bind (wpS_modify (wpS_pure ⟨lo+n3,rfl,by omega,n2,⟨hT4.kind,hT4.failed,hT4.perm⟩,?_⟩))))
     show SoChain (arrOf st4) 0 (((pendingOf st4).modify ((pendingOf st4).size - 1) fun x=>(x.1,x.2.1,pw)).push (lo,n3,0)).toList (lo+n3)
     rw [Array.toList_push,Array.toList_modify]
     exact SoChain.snoc (SoChain.modify (g:=fun x=>(x.1,x.2.1,pw)) (fun t=>⟨rfl,rfl⟩) _ hC4) n1 hs4
    case mstep=>
     rintro y c st4 _ hy ⟨rfl,hT4,hC4,hs4⟩
     refine wpS_bind (wpS_get ?_)
     by_cases hp:((sortPriv% PySem.Builtin.SortState.pending) st4).size > 1
     ·rw [if_pos hp]
      obtain ⟨⟨u,v,older⟩,e⟩:∃ z,((sortPriv% PySem.Builtin.SortState.pending) st4)[((sortPriv% PySem.Builtin.SortState.pending) st4).size - 2]?=some z:=
       ⟨_,getElem?_pos _ _ (by omega)⟩
      rw [e]
      dsimp only
      by_cases hold:older <= pw
      ·rw [if_pos hold]
       exact wpS_pure ⟨rfl,hT4,hC4,hs4⟩
      ·rw [if_neg hold]
       refine wpS_bind (wpS_mergeC h0 hT4 (by show ((sortPriv% PySem.Builtin.SortState.pending) st4).size - 2+1 < ((sortPriv% PySem.Builtin.SortState.pending) st4).size;omega) x2 hC4 fun st5 hT5 hC5 _ ho=>?_)
       simp only [Bool.not_true,Bool.false_eq_true,if_false]
       exact wpS_pure ⟨rfl,hT5,hC5,hs4.congr fun j j1 _=>ho j j1⟩
     ·rw [if_neg hp]
      exact wpS_pure ⟨rfl,hT4,hC4,hs4⟩
  ·rw [if_neg hlt]
   refine wpS_bind (wpS_get ?_)
   have hT3:=hT2
   have hC3:=hC2
   have hs3:=hs2
   have n1:1 <= m:=m1
   have n2:lo+m <= a₀.size:=by omega
   clear hM hs2 hT2 hC2 hz2
   generalize st2=st3 at hT3 hC3 hs3 ⊢
   generalize m=n3 at hs3 n1 n2 ⊢
   rcases hb:((sortPriv% PySem.Builtin.SortState.pending) st3).back? with _ | ⟨s1,k1,q1⟩
   ·dsimp only
    refine wpS_bind (wpS_modify (wpS_pure ⟨lo+n3,rfl,by omega,n2,⟨hT3.kind,hT3.failed,hT3.perm⟩,?_⟩))
    show SoChain (arrOf st3) 0 ((pendingOf st3).push (lo,n3,0)).toList (lo+n3)
    rw [Array.toList_push]
    exact hC3.snoc n1 hs3
   ·dsimp only
    generalize (sortPriv% PySem.Builtin.power) a₀.size (2*s1+k1) (2*s1+k1+k1+n3) a₀.size=pw
    refine wpS_bind (wpS_mono (wpS_forRange
     (I:=fun y c st4=>c=(none,()) /\ SoTB a₀ st4 /\ SoChain (arrOf st4) 0 (pendingOf st4).toList lo /\ SoSeg (arrOf st4) lo (lo+n3))
     (Q:=fun c st4=>c=(none,()) /\ SoTB a₀ st4 /\ SoChain (arrOf st4) 0 (pendingOf st4).toList lo /\ SoSeg (arrOf st4) lo (lo+n3)) ?mstep ?mfin ?minit) ?mpost)
    case minit=>exact ⟨rfl,hT3,hC3,hs3⟩
    case mfin=>exact fun c st4 hh=>hh
    case mpost=>
     rintro c st4 ⟨rfl,hT4,hC4,hs4⟩
     dsimp only
     refine wpS_bind (wpS_modify (wpS_bind (wpS_modify (wpS_pure ⟨lo+n3,rfl,by omega,n2,⟨hT4.kind,hT4.failed,hT4.perm⟩,?_⟩))))
     show SoChain (arrOf st4) 0 (((pendingOf st4).modify ((pendingOf st4).size - 1) fun x=>(x.1,x.2.1,pw)).push (lo,n3,0)).toList (lo+n3)
     rw [Array.toList_push,Array.toList_modify]
     exact SoChain.snoc (SoChain.modify (g:=fun x=>(x.1,x.2.1,pw)) (fun t=>⟨rfl,rfl⟩) _ hC4) n1 hs4
    case mstep=>
     rintro y c st4 _ hy ⟨rfl,hT4,hC4,hs4⟩
     refine wpS_bind (wpS_get ?_)
     by_cases hp:((sortPriv% PySem.Builtin.SortState.pending) st4).size > 1
     ·rw [if_pos hp]
      obtain ⟨⟨u,v,older⟩,e⟩:∃ z,((sortPriv% PySem.Builtin.SortState.pending) st4)[((sortPriv% PySem.Builtin.SortState.pending) st4).size - 2]?=some z:=
       ⟨_,getElem?_pos _ _ (by omega)⟩
      rw [e]
      dsimp only
      by_cases hold:older <= pw
      ·rw [if_pos hold]
       exact wpS_pure ⟨rfl,hT4,hC4,hs4⟩
      ·rw [if_neg hold]
       refine wpS_bind (wpS_mergeC h0 hT4 (by show ((sortPriv% PySem.Builtin.SortState.pending) st4).size - 2+1 < ((sortPriv% PySem.Builtin.SortState.pending) st4).size;omega) x2 hC4 fun st5 hT5 hC5 _ ho=>?_)
       simp only [Bool.not_true,Bool.false_eq_true,if_false]
       exact wpS_pure ⟨rfl,hT5,hC5,hs4.congr fun j j1 _=>ho j j1⟩
     ·rw [if_neg hp]
      exact wpS_pure ⟨rfl,hT4,hC4,hs4⟩
 case post=>
  rintro c st' ⟨rfl,hT,hC⟩
  dsimp only
  have hlen:=hC.le
  rw [Array.length_toList] at hlen
  refine wpS_bind (wpS_mono (wpS_forRange
   (I:=fun x c st2=>c=(none,()) /\ SoTB a₀ st2 /\ SoChain (arrOf st2) 0 (pendingOf st2).toList a₀.size /\ x+(pendingOf st2).size <= a₀.size+1)
   (Q:=fun c st2=>c=(none,()) /\ SoTB a₀ st2 /\ SoChain (arrOf st2) 0 (pendingOf st2).toList a₀.size /\ (pendingOf st2).size <= 1) ?step2 ?fin2 ?init2) ?post2)
  case init2=>exact ⟨rfl,hT,hC,by omega⟩
  case fin2=>
   rintro c st2 ⟨rfl,hT2,hC2,hx⟩
   exact ⟨rfl,hT2,hC2,by omega⟩
  case step2=>
   rintro x c st2 _ hx ⟨rfl,hT2,hC2,hx2⟩
   refine wpS_bind (wpS_get ?_)
   by_cases hone:((sortPriv% PySem.Builtin.SortState.pending) st2).size <= 1
   ·rw [if_pos hone]
    exact wpS_pure ⟨rfl,hT2,hC2,hone⟩
   rw [if_neg hone]
   refine wpS_bind (wpS_mergeC h0 hT2 ?_ (Nat.le_refl _) hC2 fun st3 hT3 hC3 hz3 _=>?_)
   ·have hone':¬ (pendingOf st2).size <= 1:=hone
    by_cases hp:((sortPriv% PySem.Builtin.SortState.pending) st2).size - 2 > 0
    ·rw [if_pos hp]
     split<;>(simp only [pendingOf] at *;omega)
    ·rw [if_neg hp]
     simp only [Option.any_none,Bool.false_eq_true,if_false]
     simp only [pendingOf] at *;omega
   ·simp only [Bool.not_true,Bool.false_eq_true,if_false]
    exact wpS_pure ⟨rfl,hT3,hC3,by omega⟩
  case post2=>
   rintro c st2 ⟨rfl,hT2,hC2,hx⟩
   refine wpS_pure (h st2 hT2.perm hT2.failed ?_)
   rw [<- Array.length_toList] at hx
   revert hC2 hx
   generalize (pendingOf st2).toList=l
   intro hC2 hx
   match l,hC2,hx with
   | [],hC2,_=>
    have q5:0=a₀.size:=hC2
    omega
   | [(p1,p2,p3)],hC2,_=>
    obtain ⟨rfl,q2,q3,q4⟩:=hC2
    have q5:0+p2=a₀.size:=q4
    intro i j hij hj
    exact q3 i j (by omega) hij (by omega)
   | _ :: _ :: _,_,hx=>simp at hx
end
end PyProof.Rows
namespace PyProof.Rows
set_option autoImplicit false
open PySem
section
variable {prog:Program} {w:World} {A:Around} {E:Value->Shared->Prop} {s:Shared}
theorem sort_long{b:Addr}{us:List Value}{zs:List Int}{g:Nat}{P:Fin->Shared->Prop}
  (hob:s.heap.get? b=some (seqObj "list" us.toArray g)) (hU:IntsAre us zs) (hlo:2 <= us.length) (hhi:us.length <= 4096)
  (hP:∀ (o:Array Value) (ys:List Int),IntsAre o.toList ys->ys.Perm zs->ys.Pairwise (· <= ·)->
   P (.done (.ret .none)) { s with heap:=sortedHeap s.heap b us o }):
  wpAny (model prog w) A (Builtin.«list.sort» ⟨[.ref b],[]⟩) P E s:=by
 have hsl:us.toArray.size <= sizeLine:=by rw [sizeLine_eq];simp;omega
 rw [list_sort_plain]
 have hin:=Heap.lt_size hob
 refine wpAny_bind
  (listItems_at hob rfl ?_)
 refine wpAny_bind
  (listUpdate_at hob rfl ?_ hsl (Nat.zero_le _))
 obtain ⟨ep,hq1⟩:∃ ep,(s.heap.update b (Obj.mapSeq fun _=>#[])).get? b=
   some (seqObj "list" #[] ep):=⟨_,get?_update_seq hob _⟩
 refine wpAny_bind
  (seqEpoch_at hq1 rfl ?_)
 refine wpAny_bind
  (wpAny_newTuple ?_)
 refine wpAny_bind
  (wpAny_newList ?_)
 refine wpAny_holding ?_
 have hq2:(((s.heap.update b (Obj.mapSeq fun _=>#[])).push
   (seqObj "tuple" us.toArray 0)).push (seqObj "list" #[] 0)).get? b=some (seqObj "list" #[] ep):=by
  rw [Heap.get?_push_ne,Heap.get?_push_ne]
  ·exact hq1
  ·rw [Heap.size_update];exact Nat.ne_of_lt hin
  ·rw [size_push',Heap.size_update]
   exact Nat.ne_of_lt (Nat.lt_succ_of_lt hin)
 show wpAny _ A _ P E { s with
  heap:=((s.heap.update b (Obj.mapSeq fun _=>#[])).push
   (seqObj "tuple" us.toArray 0)).push (seqObj "list" #[] 0) }
 dsimp only
 have hsize:us.toArray.size=us.length:=by simp
 rw [if_neg (by omega),if_neg (by omega)]
 obtain ⟨u,v,r,rfl⟩:∃ u v r,us=u :: v :: r:=by
  rcases us with _ | ⟨u,_ | ⟨v,r⟩⟩
  ·simp at hlo
  ·simp at hlo
  ·exact ⟨u,v,r,rfl⟩
 rw [keyKind_ints hU]
 refine wpAny_bind
  (wpAny_pure ?_)
 refine wpAny_bind
  (wpAny_mono (wpS_sortAll (a₀:=pairsOf (u :: v :: r))
   (st:=SortSt.mk' oneType' (pairsOf (u :: v :: r)) #[] 7 none)
   (Q:=fun _ z=>(arrOf z).Perm (pairsOf (u :: v :: r)) /\ failedOf z=none /\ SortedTo (arrOf z) (pairsOf (u :: v :: r)).size)
   hU.intKeys ⟨Array.Perm.refl _,rfl,rfl,rfl⟩ (by rw [pairsOf_size];exact hlo) fun z b1 b2 b3=>⟨b1,b2,b3⟩) ?_ fun _ _ e=>e)
 rintro ⟨⟨⟩,z⟩ s' ⟨rfl,b1,b2,b3⟩
 dsimp only
 refine wpAny_bind
  (seqEpoch_at hq2 rfl ?_)
 have hmz:((arrOf z).map (·.2)).size <= sizeLine+1:=by
  rw [Array.size_map,b1.size_eq,pairsOf_size,sizeLine_eq];omega
 refine wpAny_bind
  (listUpdate_at hq2 rfl ?_ (Nat.zero_le _) hmz)
 rw [b2]
 simp only [bne_self_eq_false,Bool.false_eq_true,if_false]
 obtain ⟨ys,y1,y2,y3⟩:=sorted_out hU b1 b3
 exact wpAny_pure (hP _ ys y1 y2 y3)
theorem sorted_long{b:Addr}{us:List Value}{zs:List Int}{Q:Value->Shared->Prop}
  (hl:s.heap.IsList b us.toArray) (hU:IntsAre us zs) (hlo:2 <= us.length) (hhi:us.length <= 4096)
  (hQ:∀ (o:Array Value) (ys:List Int),IntsAre o.toList ys->ys.Perm zs->ys.Pairwise (· <= ·)->
   Q (.ref (s.heap.objs.size+1)) { s with heap:=sortedAll s.heap us o }):
  wpAny (model prog w) A (call (.builtin "sorted") [.ref b]) Q E s:=by
 have hsl:us.length <= sizeLine:=by rw [sizeLine_eq];omega
 refine Calls.call_function_entry kind_sorted
  plain_sorted entry_sorted (args_sorted1 _) ?_
 unfold Builtin.«sorted»
 refine wpAny_bind
  (m:=checkCount "sorted" 1 1 _) (wpAny_pure ?_)
 refine wpAny_bind
  (collect_list hl ?_ hsl)
 refine wpAny_bind
  (wpAny_newList ?_)
 have hz:((s.heap.push (seqObj "list" #[] 0)).update
   s.heap.objs.size (Obj.mapSeq (·++us.toArray))).objs.size=s.heap.objs.size+1:=by
  rw [Heap.size_update,size_push']
 have hq:(((s.heap.push (seqObj "list" #[] 0)).update
   s.heap.objs.size (Obj.mapSeq (·++us.toArray))).push
   (seqObj "list" us.toArray 0)).get? (s.heap.objs.size+1)=some (seqObj "list" us.toArray 0):=by
  rw [<- hz];exact Heap.get?_push_size _ rfl
 show wpAny _ _ _ _ _ { s with
  heap:=((s.heap.push (seqObj "list" #[] 0)).update
   s.heap.objs.size (Obj.mapSeq (·++us.toArray))).push (seqObj "list" us.toArray 0) }
 rw [hz]
 refine wpAny_bind (wpAny_holding
  (wpAny_call_entry slot_list_sort ⟨_,hq,rfl⟩ entry_list_sort
   (sort_long hq hU hlo hhi fun o ys y1 y2 y3=>⟨_,rfl,?_⟩) (args_list_sort _)))
 exact wpAny_pure ⟨_,rfl,hQ o ys y1 y2 y3⟩
end
end PyProof.Rows
namespace L2
open PySem PySem.Spec PyProof.Rows
section
variable {X:Cx}
theorem sorted_any{prog:Program}{w:World}{A:Around}{E:Value->Shared->Prop}{s:Shared}{b:Addr}{us:List Value}{zs:List Int}{Q:Value->Shared->Prop}
  (hl:s.heap.IsList b us.toArray) (hU:IntsAre us zs) (hhi:us.length <= 4096)
  (hQ:∀ (o:Array Value) (ys:List Int),IntsAre o.toList ys->ys.Perm zs->ys.Pairwise (· <= ·)->
   Q (.ref (s.heap.objs.size+1)) { s with heap:=sortedAll s.heap us o }):
  wpAny (model prog w) A (call (.builtin "sorted") [.ref b]) Q E s:=by
 by_cases h:us.length < 64
 ·exact sorted_ints hl hU h hQ
 ·exact sorted_long hl hU (by omega) hhi hQ
theorem call_sortedL:CallR X (.builtin "sorted") (fun xs H Q=>∃ (p:Addr) (ns:List Int),xs=[.ref p] /\ SqL X.K H p (ns.map V.int) /\ ns.length <= 4096 /\
  ∀ (l:Addr) (ns':List Int),H l=none->ns'.Perm ns->ns'.Pairwise (· <= ·)->Q (.ref l) (upd H l (.lst (ns'.map V.int)))):=by
 intro pins s σ H xs us Q I r h
 obtain ⟨p,ns,rfl,hq,hz,q⟩:=h
 obtain ⟨u,rfl,ru⟩:=vals1 r
 cases ru
 obtain ⟨its,rv,pl,_⟩:=I.list hq
 have hI:=intsAre_of rv
 have hl:its.length=ns.length:=by rw [<- rv.length,List.length_map]
 refine sorted_any pl.isList hI (by omega) fun out ns' a1 a2 a3=>?_
 obtain ⟨e,he⟩:=sortedAll_at s.heap its out
 have hlen:ns'.length=ns.length:=a2.length_eq
 refine ⟨.ref (s.heap.objs.size+1),_,I.laid (t':=s.toks) (a:=s.heap.objs.size+1) (o:=.lst (ns'.map V.int)) (fun b ob z=>sortedAll_old z) (Nat.le_succ _) ?_,rfl,q _ ns' (I.hok.fresh (Nat.le_succ _)) a2 a3⟩
 refine ⟨by rw [List.length_map,hlen,sizeLine_eq];omega,out.toList,e,vals_ints a1,?_⟩
 exact he
end
end L2
namespace L2
open PySem PySem.Spec PyProof.Rows
theorem sortTo199:SortTo 199:=fun h0 hB h2 _ h=>wpS_sortAll h0 hB h2 h
theorem callK_sortedW{X:Cx}{K:PySem.W.Frag}(hK:X.K=K):CallR X (.builtin "sorted") (fun xs H Q=>∃ (p:Addr) (ns:List Int),xs=[.ref p] /\ SqL K H p (ns.map V.int) /\ ns.length < 200 /\
  ∀ (l:Addr) (ns':List Int),H l=none->ns'.Perm ns->ns'.Pairwise (· <= ·)->Q (.ref l) (upd H l (.lst (ns'.map V.int)))):=by
 subst hK
 intro pins s σ H xs us Q I r h
 obtain ⟨p,ns,h1,h2,h3,q⟩:=h
 exact call_sortedL pins s σ H xs us Q I r ⟨p,ns,h1,h2,by omega,q⟩
end L2
namespace Gp
def Od(T:List Int)(a b:Nat):Prop:=a < b /\ T.getD a 0 < T.getD b 0 /\ ∃ k,b < k /\ k < T.length /\ T.getD k 0 < T.getD a 0
def Adj(nb:List (List Nat))(a b:Nat):Prop:=b∈nb.getD a []
inductive Conn(nb:List (List Nat)):Nat->Nat->Prop
 | refl (a:Nat):Conn nb a a
 | step {a b c:Nat}:Conn nb a b->Adj nb b c->Conn nb a c
theorem Conn.trans{nb:List (List Nat)}{a b c:Nat}(h:Conn nb a b)(k:Conn nb b c):Conn nb a c:=by
 induction k with
 | refl=>exact h
 | step _ e ih=>exact .step ih e
theorem Conn.one{nb:List (List Nat)}{a b:Nat}(h:Adj nb a b):Conn nb a b:=.step (.refl _) h
theorem Conn.symm{nb:List (List Nat)}(s:∀ a b,Adj nb a b->Adj nb b a){a b:Nat}(h:Conn nb a b):Conn nb b a:=by
 induction h with
 | refl=>exact .refl _
 | step _ e ih=>exact (Conn.one (s _ _ e)).trans ih
theorem Conn.mono{nb nb':List (List Nat)}(m:∀ a b,Adj nb a b->Adj nb' a b){a b:Nat}(h:Conn nb a b):Conn nb' a b:=by
 induction h with
 | refl=>exact .refl _
 | step _ e ih=>exact .step ih (m _ _ e)
def put(nb:List (List Nat))(i x:Nat):List (List Nat):=nb.set i (nb.getD i []++[x])
def addE(nb:List (List Nat))(p o:Nat):List (List Nat):=put (put nb p o) o p
theorem put_len(nb:List (List Nat))(i x:Nat):(put nb i x).length=nb.length:=List.length_set
theorem put_get{nb:List (List Nat)}{i:Nat}(h:i < nb.length)(x a:Nat):(put nb i x).getD a []=if a=i then nb.getD i []++[x] else nb.getD a []:=Sh.getD_set h
theorem adj_put{nb:List (List Nat)}{i:Nat}(h:i < nb.length){x a b:Nat}:Adj (put nb i x) a b↔Adj nb a b \/ (a=i /\ b=x):=by
 unfold Adj
 rw [put_get h]
 by_cases ha:a=i
 ·subst ha;rw [if_pos rfl,List.mem_append,List.mem_singleton];simp
 ·rw [if_neg ha];simp [ha]
theorem adj_add{nb:List (List Nat)}{p o:Nat}(hp:p < nb.length)(ho:o < nb.length){a b:Nat}:Adj (addE nb p o) a b↔Adj nb a b \/ (a=p /\ b=o) \/ (a=o /\ b=p):=by
 unfold addE
 rw [adj_put (by rw [put_len];exact ho),adj_put hp,or_assoc]
structure Gr(T:List Int)(nb:List (List Nat)):Prop where
 len:nb.length=T.length
 sym:∀ a b,Adj nb a b->Adj nb b a
 od:∀ a b,Adj nb a b->Od T (min a b) (max a b)
theorem Gr.add{T:List Int}{nb:List (List Nat)}(h:Gr T nb){p o:Nat}(ho:o < T.length)(hO:Od T p o):Gr T (addE nb p o):=by
 have hl:=h.len
 have hpo:=hO.1
 refine ⟨by unfold addE;rw [put_len,put_len];exact hl,fun a b z=>?_,fun a b z=>?_⟩
 ·rw [adj_add (by omega) (by omega)] at z ⊢
  rcases z with z | ⟨rfl,rfl⟩ | ⟨rfl,rfl⟩
  ·exact .inl (h.sym _ _ z)
  ·exact .inr (.inr ⟨rfl,rfl⟩)
  ·exact .inr (.inl ⟨rfl,rfl⟩)
 ·rw [adj_add (by omega) (by omega)] at z
  rcases z with z | ⟨rfl,rfl⟩ | ⟨rfl,rfl⟩
  ·exact h.od _ _ z
  ·rw [Nat.min_eq_left (by omega),Nat.max_eq_right (by omega)];exact hO
  ·rw [Nat.min_eq_right (by omega),Nat.max_eq_left (by omega)];exact hO
def gr(T:List Int)(a b:Nat):Nat:=if T.getD a 0 > T.getD b 0 then a else b
theorem gr_is(T:List Int)(a b:Nat):gr T a b=a \/ gr T a b=b:=by unfold gr;split<;>simp
theorem gr_l(T:List Int)(a b:Nat):T.getD a 0 <= T.getD (gr T a b) 0:=by unfold gr;split<;>omega
theorem gr_r(T:List Int)(a b:Nat):T.getD b 0 <= T.getD (gr T a b) 0:=by unfold gr;split<;>omega
def leave(T:List Int)(place:Nat):List (Nat × Nat)->List (List Nat)->Nat->Option (List (List Nat) × List (Nat × Nat))
 | [],_,_=>none
 | x :: r,nb,g=>if place < x.1 then leave T place r (addE nb place x.2) (gr T g x.2) else some (nb,if gr T g x.2=place then r else (x.1,gr T g x.2) :: r)
structure By(T:List Int)(ord:List Nat):Prop where
 o:Sh.Ord ord T.length
 lt:∀ p q,p < T.length->q < T.length->(T.getD p 0 < T.getD q 0↔ord.idxOf p < ord.idxOf q)
structure J(T:List Int)(ord:List Nat)(i g:Nat)(rp:List (Nat × Nat))(nb:List (List Nat)):Prop where
 gra:Gr T nb
 dec:rp.Pairwise fun x y=>y.1 < x.1
 pr:∀ x∈rp,x.1 <= x.2 /\ x.2 < i /\ g <= ord.idxOf x.2 /\ ∀ y∈rp,y.1 <= x.2->y.1 <= x.1
 hom:∀ p,p < i->g <= ord.idxOf p->∃ x∈rp,x.1 <= p /\ (∀ y∈rp,y.1 <= p->y.1 <= x.1) /\ T.getD p 0 <= T.getD x.2 0 /\ Conn nb p x.2
 com:∀ a b,Od T a b->ord.idxOf a < g->Conn nb a b
 fin:∀ p q,p < q->q < i->g <= ord.idxOf p->ord.idxOf p < ord.idxOf q->∃ k,q < k /\ k < T.length /\ ord.idxOf k < ord.idxOf p
 gon:∀ p,p < T.length->ord.idxOf p < g->p < i
 bnd:∃ e,(∀ a,(nb.getD a []).length <= 2*e) /\ e+rp.length <= i
theorem J.start{T:List Int}{ord:List Nat}:J T ord 0 0 [] (List.replicate T.length []):=by
 have e:∀ a,(List.replicate T.length ([]:List Nat)).getD a []=[]:=fun a=>by
  rw [List.getD_eq_getElem?_getD,List.getElem?_replicate]
  split<;>rfl
 have n:∀ a b,¬ Adj (List.replicate T.length []) a b:=fun a b h=>by unfold Adj at h;rw [e] at h;cases h
 exact ⟨⟨List.length_replicate,fun a b h=>(n _ _ h).elim,fun a b h=>(n _ _ h).elim⟩,.nil,fun x h=>(by cases h),fun p h=>(by omega),fun a b _ h=>(by omega),fun p q _ h=>(by omega),fun p _ h=>(by omega),⟨0,fun a=>(by rw [e];exact Nat.le_refl _),Nat.le_refl _⟩⟩
theorem J.come{T:List Int}{ord:List Nat}{i g:Nat}{rp:List (Nat × Nat)}{nb:List (List Nat)}(B:By T ord)(j:J T ord i g rp nb)(hi:i < T.length)(st:∀ p,ord[g]?=some p->i <= p):J T ord (i+1) g ((i,i) :: rp) nb:=by
 have hgi:g <= ord.idxOf i:=by
  rcases Nat.lt_or_ge (ord.idxOf i) g with z | z
  ·have:=j.gon i hi z;omega
  ·exact z
 refine ⟨j.gra,?_,fun x hx=>?_,fun p hp hg=>?_,j.com,fun p q hpq hq hg hl=>?_,fun p hp hl=>Nat.lt_succ_of_lt (j.gon p hp hl),?_⟩
 ·rw [List.pairwise_cons]
  exact ⟨fun y hy=>by have:=j.pr y hy;show y.1 < i;omega,j.dec⟩
 ·rcases List.mem_cons.mp hx with rfl | hx
  ·exact ⟨Nat.le_refl _,Nat.lt_succ_self _,hgi,fun y _ h=>h⟩
  ·obtain ⟨h1,h2,h3,h4⟩:=j.pr x hx
   refine ⟨h1,by omega,h3,fun y hy hl=>?_⟩
   rcases List.mem_cons.mp hy with rfl | hy
   ·have:i <= x.2:=hl
    omega
   ·exact h4 y hy hl
 ·by_cases hpi:p=i
  ·subst hpi
   exact ⟨(p,p),List.mem_cons_self,Nat.le_refl _,fun y _ h=>h,Int.le_refl _,.refl _⟩
  ·obtain ⟨x,hx,h1,h2,h3,h4⟩:=j.hom p (by omega) hg
   refine ⟨x,List.mem_cons_of_mem _ hx,h1,fun y hy hl=>?_,h3,h4⟩
   rcases List.mem_cons.mp hy with rfl | hy
   ·have:i <= p:=hl
    omega
   ·exact h2 y hy hl
 ·by_cases hqi:q=i
  ·subst hqi
   have hpn:p < T.length:=by omega
   have hpl:=(List.getElem?_eq_some_iff.mp (B.o.at_ hpn)).1
   have hgl:g < ord.length:=by omega
   have ek:ord[g]?=some ord[g]:=List.getElem?_eq_getElem hgl
   have hk:=st _ ek
   have ik:=B.o.idx ek
   have kn:=B.o.lt ek
   refine ⟨ord[g],?_,kn,?_⟩
   ·rcases Nat.lt_or_ge q ord[g] with z | z
    ·exact z
    ·have hz:ord[g]=q:=by omega
     rw [hz] at ik
     omega
   ·rw [ik]
    rcases Nat.lt_or_ge g (ord.idxOf p) with z | z
    ·exact z
    ·have:=B.o.inj kn hpn (by omega)
     omega
  ·exact j.fin p q hpq (by omega) hg hl
 ·obtain ⟨e,h1,h2⟩:=j.bnd
  exact ⟨e,h1,by rw [List.length_cons];omega⟩
section
variable {T:List Int} {ord:List Nat} {i g place:Nat} {rp0:List (Nat × Nat)} {nb0:List (List Nat)}
structure L(T:List Int)(place:Nat)(rp0 xs rest:List (Nat × Nat))(nb0 nb:List (List Nat))(gm e:Nat):Prop where
 split:rp0=xs++rest
 gra:Gr T nb
 mono:∀ a b,Adj nb0 a b->Adj nb a b
 edge:∀ x∈xs,place < x.1 /\ Adj nb place x.2
 gmem:gm=place \/ ∃ x∈xs,gm=x.2
 gmax:T.getD place 0 <= T.getD gm 0 /\ ∀ x∈xs,T.getD x.2 0 <= T.getD gm 0
 bnd:∀ a,(nb.getD a []).length <= 2*(e+xs.length)
theorem add_bnd{nb:List (List Nat)}{p o m:Nat}(hp:p < nb.length)(ho:o < nb.length)(h:∀ a,(nb.getD a []).length <= m)(a:Nat):((addE nb p o).getD a []).length <= m+2:=by
 unfold addE
 rw [put_get (by rw [put_len];exact ho)]
 have h1:∀ a,((put nb p o).getD a []).length <= m+1:=fun a=>by
  rw [put_get hp]
  split
  ·rw [List.length_append];have:=h p;simp only [List.length_cons,List.length_nil];omega
  ·have:=h a;omega
 split
 ·rw [List.length_append];have:=h1 o;simp only [List.length_cons,List.length_nil];omega
 ·have:=h1 a;omega
theorem J.out(B:By T ord)(j:J T ord i g rp0 nb0)(hi:i <= T.length)(hg:ord[g]?=some place)(hpl:place < i){e:Nat}(he:e+rp0.length <= i):∀ (rest xs:List (Nat × Nat)) (nb:List (List Nat)) (gm:Nat),L T place rp0 xs rest nb0 nb gm e->
  ∃ nb' rp',leave T place rest nb gm=some (nb',rp') /\ J T ord i (g+1) rp' nb':=by
 have ip:=B.o.idx hg
 have hpn:place < T.length:=by omega
 obtain ⟨h,hh,hm1,hm2,hm3,hm4⟩:=j.hom place hpl (by omega)
 intro rest
 induction rest with
 | nil=>
  intro xs nb gm l
  exfalso
  rw [l.split,List.append_nil] at hh
  have:=(l.edge h hh).1
  omega
 | cons x r ih=>
  intro xs nb gm l
  have hx0:x∈rp0:=by rw [l.split];exact List.mem_append_right _ List.mem_cons_self
  obtain ⟨q1,q2,q3,q4⟩:=j.pr x hx0
  unfold leave
  by_cases hx:place < x.1
  ·rw [if_pos hx]
   have hne:ord.idxOf place < ord.idxOf x.2:=by
    rcases Nat.lt_or_ge (ord.idxOf place) (ord.idxOf x.2) with z | z
    ·exact z
    ·have:=B.o.inj hpn (show x.2 < T.length by omega) (by omega)
     omega
   have hod:Od T place x.2:=by
    refine ⟨by omega,(B.lt _ _ hpn (by omega)).mpr hne,?_⟩
    obtain ⟨k,k1,k2,k3⟩:=j.fin place x.2 (by omega) q2 (by omega) hne
    exact ⟨k,k1,k2,(B.lt _ _ k2 hpn).mpr k3⟩
   have hl:=l.gra.len
   have ad:=fun {a b:Nat}=>adj_add (nb:=nb) (p:=place) (o:=x.2) (by omega) (by omega) (a:=a) (b:=b)
   refine ih (xs++[x]) _ _ ⟨by rw [l.split];simp,l.gra.add (by omega) hod,fun a b z=>ad.mpr (.inl (l.mono a b z)),fun y hy=>?_,?_,⟨Int.le_trans l.gmax.1 (gr_l ..),fun y hy=>?_⟩,fun a=>?_⟩
   ·rcases List.mem_append.mp hy with hy | hy
    ·exact ⟨(l.edge y hy).1,ad.mpr (.inl (l.edge y hy).2)⟩
    ·rw [List.mem_singleton.mp hy]
     exact ⟨hx,ad.mpr (.inr (.inl ⟨rfl,rfl⟩))⟩
   ·rcases gr_is T gm x.2 with z | z
    ·rw [z]
     rcases l.gmem with z' | ⟨y,hy,z'⟩
     ·exact .inl z'
     ·exact .inr ⟨y,List.mem_append_left _ hy,z'⟩
    ·exact .inr ⟨x,by simp,z⟩
   ·rcases List.mem_append.mp hy with hy | hy
    ·exact Int.le_trans (l.gmax.2 y hy) (gr_l ..)
    ·rw [List.mem_singleton.mp hy]
     exact gr_r ..
   ·have:=add_bnd (nb:=nb) (p:=place) (o:=x.2) (by omega) (by omega) l.bnd a
    rw [List.length_append]
    simp only [List.length_cons,List.length_nil]
    omega
  ·rw [if_neg hx]
   refine ⟨nb,_,rfl,?_⟩
   have hdec:=j.dec
   rw [l.split,List.pairwise_append,List.pairwise_cons] at hdec
   obtain ⟨_,⟨dx,dr⟩,dxs⟩:=hdec
   have mem:∀ y,y∈rp0↔y∈xs \/ y=x \/ y∈r:=fun y=>by rw [l.split,List.mem_append,List.mem_cons]
   have hox:h=x:=by
    rcases (mem h).mp hh with z | z | z
    ·have:=(l.edge h z).1;omega
    ·exact z
    ·have h1:=dx h z
     have h2:=hm2 x hx0 (by omega)
     omega
   subst hox
   have sy:=l.gra.sym
   have cpx:Conn nb place h.2:=hm4.mono l.mono
   have cgm:Conn nb place (gr T gm h.2):=by
    rcases gr_is T gm h.2 with z | z
    ·rw [z]
     rcases l.gmem with rfl | ⟨y,hy,rfl⟩
     ·exact .refl _
     ·exact Conn.one (l.edge y hy).2
    ·rw [z];exact cpx
   have gmx:∀ y,y∈xs \/ y=h->T.getD y.2 0 <= T.getD (gr T gm h.2) 0:=fun y hy=>by
    rcases hy with hy | rfl
    ·exact Int.le_trans (l.gmax.2 y hy) (gr_l ..)
    ·exact gr_r ..
   have gpr:gr T gm h.2=place \/ (h.1 <= gr T gm h.2 /\ gr T gm h.2 < i /\ g <= ord.idxOf (gr T gm h.2)):=by
    rcases gr_is T gm h.2 with z | z
    ·rw [z]
     rcases l.gmem with z' | ⟨y,hy,rfl⟩
     ·exact .inl z'
     ·obtain ⟨p1,p2,p3,_⟩:=j.pr y ((mem y).mpr (.inl hy))
      have:=(l.edge y hy).1
      exact .inr ⟨by omega,p2,p3⟩
    ·rw [z];exact .inr ⟨q1,q2,q3⟩
   have near:∀ p,p < i->g <= ord.idxOf p->(∃ y,(y∈xs \/ y=h) /\ h.1 <= p /\ T.getD p 0 <= T.getD y.2 0 /\ Conn nb p place) \/ ∃ y∈r,y.1 <= p /\ (∀ z∈rp0,z.1 <= p->z.1 <= y.1) /\ T.getD p 0 <= T.getD y.2 0 /\ Conn nb p y.2:=fun p hp hpg=>by
    obtain ⟨y,hy,y1,y2,y3,y4⟩:=j.hom p hp hpg
    have c:=y4.mono l.mono
    rcases (mem y).mp hy with z | z | z
    ·have:=(l.edge y z).1
     exact .inl ⟨y,.inl z,by omega,y3,c.trans (Conn.one (sy _ _ (l.edge y z).2))⟩
    ·subst z
     exact .inl ⟨y,.inr rfl,y1,y3,c.trans (cpx.symm sy)⟩
    ·exact .inr ⟨y,z,y1,y2,y3,c⟩
   have other:∀ p,p < T.length->g+1 <= ord.idxOf p->T.getD place 0 < T.getD p 0:=fun p hp hl=>(B.lt _ _ hpn hp).mpr (by omega)
   have rne:∀ y∈r,y.2≠place:=fun y hy z=>by
    have h1:=dx y hy
    have h2:=(j.pr y ((mem y).mpr (.inr (.inr hy)))).2.2.2 h hx0 (by rw [z];exact hm1)
    omega
   have gne:∀ p,p < T.length->p≠place->g <= ord.idxOf p->g+1 <= ord.idxOf p:=fun p hp hne hl=>by
    rcases Nat.lt_or_ge g (ord.idxOf p) with z | z
    ·exact z
    ·exact absurd (B.o.inj hp hpn (by omega)) hne
   have prr:∀ y∈r,y.1 <= y.2 /\ y.2 < i /\ g+1 <= ord.idxOf y.2 /\ (∀ z∈r,z.1 <= y.2->z.1 <= y.1) /\ ¬ h.1 <= y.2:=fun y hy=>by
    obtain ⟨p1,p2,p3,p4⟩:=j.pr y ((mem y).mpr (.inr (.inr hy)))
    refine ⟨p1,p2,gne _ (by omega) (rne y hy) p3,fun z hz hl=>p4 z ((mem z).mpr (.inr (.inr hz))) hl,fun hl=>?_⟩
    have:=p4 h hx0 hl
    have:=dx y hy
    omega
   have comm:∀ a b,Od T a b->ord.idxOf a < g+1->Conn nb a b:=fun a b hab hl=>by
    by_cases ha:ord.idxOf a < g
    ·exact (j.com a b hab ha).mono l.mono
    ·obtain ⟨a1,a2,k,k1,k2,k3⟩:=hab
     have hap:a=place:=B.o.inj (by omega) hpn (by omega)
     subst hap
     have hki:=j.gon k k2 (by have:=(B.lt _ _ k2 hpn).mp k3;omega)
     have hgb:=(B.lt _ _ hpn (show b < T.length by omega)).mp a2
     rcases near b (by omega) (by omega) with ⟨y,_,_,_,c⟩ | ⟨y,hy,y1,y2,_⟩
     ·exact c.symm sy
     ·have h1:=y2 h hx0 (by omega)
      have h2:=dx y hy
      omega
   have lenr:xs.length+(r.length+1)=rp0.length:=by rw [l.split,List.length_append,List.length_cons]
   have finn:∀ p q,p < q->q < i->g+1 <= ord.idxOf p->ord.idxOf p < ord.idxOf q->∃ k,q < k /\ k < T.length /\ ord.idxOf k < ord.idxOf p:=fun p q a b c d=>j.fin p q a b (by omega) d
   have gonn:∀ p,p < T.length->ord.idxOf p < g+1->p < i:=fun p hp hl=>by
    by_cases hl':ord.idxOf p < g
    ·exact j.gon p hp hl'
    ·rw [B.o.inj hp hpn (by omega)];exact hpl
   by_cases hgp:gr T gm h.2=place
   ·rw [if_pos hgp]
    refine ⟨l.gra,dr,fun y hy=>?_,fun p hp hl=>?_,comm,finn,gonn,⟨e+xs.length,l.bnd,by omega⟩⟩
    ·obtain ⟨p1,p2,p3,p4,_⟩:=prr y hy
     exact ⟨p1,p2,p3,p4⟩
    ·rcases near p hp (by omega) with ⟨y,hy,y1,y2,_⟩ | ⟨y,hy,y1,y2,y3,y4⟩
     ·have h1:=gmx y hy
      have h2:=other p (by omega) hl
      rw [hgp] at h1
      omega
     ·exact ⟨y,hy,y1,fun z hz=>y2 z ((mem z).mpr (.inr (.inr hz))),y3,y4⟩
   ·rw [if_neg hgp]
    obtain ⟨g1,g2,g3⟩:=gpr.resolve_left hgp
    refine ⟨l.gra,?_,fun y hy=>?_,fun p hp hl=>?_,comm,finn,gonn,⟨e+xs.length,l.bnd,by rw [List.length_cons];omega⟩⟩
    ·rw [List.pairwise_cons]
     exact ⟨fun y hy=>dx y hy,dr⟩
    ·rcases List.mem_cons.mp hy with rfl | hy
     ·refine ⟨g1,g2,gne _ (by omega) hgp g3,fun z hz hl=>?_⟩
      rcases List.mem_cons.mp hz with rfl | hz
      ·exact Nat.le_refl _
      ·exact Nat.le_of_lt (dx z hz)
     ·obtain ⟨p1,p2,p3,p4,p5⟩:=prr y hy
      refine ⟨p1,p2,p3,fun z hz hl=>?_⟩
      rcases List.mem_cons.mp hz with rfl | hz
      ·exact absurd hl p5
      ·exact p4 z hz hl
    ·rcases near p hp (by omega) with ⟨y,hy,y1,y2,c⟩ | ⟨y,hy,y1,y2,y3,y4⟩
     ·refine ⟨_,List.mem_cons_self,y1,fun z hz hl=>?_,Int.le_trans y2 (gmx y hy),c.trans cgm⟩
      rcases List.mem_cons.mp hz with rfl | hz
      ·exact Nat.le_refl _
      ·exact Nat.le_of_lt (dx z hz)
     ·refine ⟨y,List.mem_cons_of_mem _ hy,y1,fun z hz hl=>?_,y3,y4⟩
      rcases List.mem_cons.mp hz with rfl | hz
      ·exact y2 h hx0 hl
      ·exact y2 z ((mem z).mpr (.inr (.inr hz))) hl
theorem J.leave(B:By T ord)(j:J T ord i g rp0 nb0)(hi:i <= T.length)(hg:ord[g]?=some place)(hpl:place < i):∃ nb' rp',Gp.leave T place rp0 nb0 place=some (nb',rp') /\ J T ord i (g+1) rp' nb':=by
 obtain ⟨e,h1,h2⟩:=j.bnd
 exact j.out B hi hg hpl h2 rp0 [] nb0 place ⟨rfl,j.gra,fun _ _ z=>z,fun x h=>(by cases h),.inl rfl,⟨Int.le_refl _,fun x h=>(by cases h)⟩,fun a=>by simpa using h1 a⟩
end
end Gp
namespace Gp
abbrev gD(l:List Int)(p:Nat):Int:=l.getD p (-1)
theorem gD_set{l:List Int}{i p:Nat}{v:Int}(h:i < l.length):gD (l.set i v) p=if p=i then v else gD l p:=by
 show (l.set i v).getD p (-1)=_
 rw [List.getD_eq_getElem?_getD,List.getElem?_set]
 by_cases hp:p=i
 ·subst hp;rw [if_pos rfl,if_pos h,if_pos rfl];rfl
 ·rw [if_neg (Ne.symm hp),if_neg hp];rfl
structure F(nb:List (List Nat))(n:Nat)(dep par:List Int)(rt:Nat->Nat):Prop where
 dl:dep.length=n
 pl:par.length=n
 up:∀ p,p < n->0 < gD dep p->∃ q:Nat,gD par p=(q:Int) /\ q < n /\ Adj nb q p /\ gD dep q=gD dep p - 1 /\ rt q=rt p
 ro:∀ p,p < n->gD dep p=0->rt p=p
 bd:∀ p,p < n->-1 <= gD dep p /\ gD dep p+dep.count (-1) < n
structure Nbs(nb:List (List Nat))(n:Nat):Prop where
 len:nb.length=n
 sym:∀ a b,Adj nb a b->Adj nb b a
 lt:∀ a b,Adj nb a b->b < n
def Cl(nb:List (List Nat))(n:Nat)(dep:List Int)(rt:Nat->Nat)(X:Nat->Prop):Prop:=∀ p,p < n->0 <= gD dep p->¬ X p->∀ q,Adj nb p q->0 <= gD dep q /\ rt q=rt p
section
variable {nb:List (List Nat)} {n:Nat} {dep par:List Int} {rt:Nat->Nat}
theorem count_reach{o:Nat}{v:Int}(hl:o < dep.length)(h:gD dep o=-1)(hv:v≠-1):(dep.set o v).count (-1)+1=dep.count (-1):=by
 have e:dep[o]=-1:=by
  have h':dep.getD o (-1)=-1:=h
  rw [List.getD_eq_getElem?_getD,List.getElem?_eq_getElem hl] at h'
  exact h'
 rw [List.count_set hl,e]
 have hm:0 < dep.count (-1):=List.count_pos_iff.mpr (e ▸ List.getElem_mem hl)
 have hb:(v==(-1:Int))=false:=by simpa using hv
 rw [hb]
 simp only [beq_self_eq_true,if_true]
 simp
 omega
theorem F.reach(f:F nb n dep par rt){o r:Nat}(ho:o < n)(hD:gD dep o=-1){v:Int}{par':List Int}(hl':par'.length=n)(hp:∀ p,p≠o->gD par' p=gD par p)
  (hv:(v=0 /\ r=o) \/ (0 < v /\ ∃ q:Nat,gD par' o=(q:Int) /\ q < n /\ Adj nb q o /\ gD dep q=v - 1 /\ rt q=r)):F nb n (dep.set o v) par' (fun p=>if p=o then r else rt p):=by
 have hol:o < dep.length:=by rw [f.dl];exact ho
 have hv0:0 <= v:=by omega
 have hc:=count_reach hol hD (show v≠-1 by omega)
 have g:=fun {p:Nat}=>gD_set (l:=dep) (i:=o) (p:=p) (v:=v) hol
 have hcn:dep.count (-1) <= n:=f.dl ▸ List.count_le_length
 refine ⟨by rw [List.length_set];exact f.dl,hl',fun p hpn hp0=>?_,fun p hpn h0=>?_,fun p hpn=>?_⟩
 ·by_cases hpo:p=o
  ·subst hpo
   rw [g,if_pos rfl] at hp0 ⊢
   obtain ⟨q,q1,q2,q3,q4,q5⟩:=(hv.resolve_left (by omega)).2
   have hqp:q≠p:=fun z=>by rw [z,hD] at q4;omega
   refine ⟨q,q1,q2,q3,?_,?_⟩
   ·rw [g,if_neg hqp];exact q4
   ·show (if q=p then r else rt q)=if p=p then r else rt p
    rw [if_neg hqp,if_pos rfl];exact q5
  ·rw [g,if_neg hpo] at hp0 ⊢
   obtain ⟨q,q1,q2,q3,q4,q5⟩:=f.up p hpn hp0
   have hqo:q≠o:=fun z=>by rw [z,hD] at q4;omega
   refine ⟨q,by rw [hp p hpo];exact q1,q2,q3,?_,?_⟩
   ·rw [g,if_neg hqo];exact q4
   ·show (if q=o then r else rt q)=if p=o then r else rt p
    rw [if_neg hqo,if_neg hpo];exact q5
 ·show (if p=o then r else rt p)=p
  by_cases hpo:p=o
  ·subst hpo
   rw [g,if_pos rfl] at h0
   rw [if_pos rfl]
   exact (hv.resolve_right (by omega)).2
  ·rw [g,if_neg hpo] at h0
   rw [if_neg hpo]
   exact f.ro p hpn h0
 ·by_cases hpo:p=o
  ·subst hpo
   rw [g,if_pos rfl]
   rcases hv with ⟨rfl,_⟩ | ⟨_,q,_,q2,_,q4,_⟩
   ·omega
   ·have:=f.bd q q2
    omega
  ·rw [g,if_neg hpo]
   have:=f.bd p hpn
   omega
theorem Cl.reach{X:Nat->Prop}(f:F nb n dep par rt)(c:Cl nb n dep rt X){o r:Nat}(ho:o < n)(hD:gD dep o=-1){v:Int}:Cl nb n (dep.set o v) (fun p=>if p=o then r else rt p) (fun p=>X p \/ p=o):=by
 intro p hp h0 hX q hq
 have hpo:p≠o:=fun z=>hX (.inr z)
 have g:=fun {p:Nat}=>gD_set (l:=dep) (i:=o) (p:=p) (v:=v) (by rw [f.dl];exact ho)
 rw [g,if_neg hpo] at h0
 obtain ⟨h1,h2⟩:=c p hp h0 (fun z=>hX (.inl z)) q hq
 have hqo:q≠o:=fun z=>by rw [z,hD] at h1;omega
 rw [g,if_neg hqo]
 refine ⟨h1,?_⟩
 show (if q=o then r else rt q)=if p=o then r else rt p
 rw [if_neg hqo,if_neg hpo]
 exact h2
structure W(nb:List (List Nat))(n:Nat)(root:Nat)(dep par:List Int)(st:List Nat)(cur:List Nat)(don:List Nat)(rt:Nat->Nat):Prop where
 f:F nb n dep par rt
 wait:∀ p,p∈st \/ p∈cur->p < n /\ 0 <= gD dep p /\ rt p=root
 cl:Cl nb n dep rt (fun p=>p∈st \/ p∈cur)
 done:∀ q∈don,0 <= gD dep q /\ rt q=root
def Ext(a b:List Int):Prop:=∀ p,0 <= gD a p->0 <= gD b p
theorem Ext.set{l:List Int}{o:Nat}{v:Int}(ho:o < l.length)(hv:0 <= v):Ext l (l.set o v):=fun p h=>by
 rw [gD_set ho]
 split
 ·exact hv
 ·exact h
theorem W.start(N:Nbs nb n)(f:F nb n dep par rt)(c:Cl nb n dep rt fun _=>False){o:Nat}(ho:o < n)(hD:gD dep o=-1):W nb n o (dep.set o 0) par [o] [] [] (fun p=>if p=o then o else rt p):=by
 have g:=fun {p:Nat}=>gD_set (l:=dep) (i:=o) (p:=p) (v:=0) (by rw [f.dl];exact ho)
 refine ⟨f.reach ho hD f.pl (fun _ _=>rfl) (.inl ⟨rfl,rfl⟩),fun p hp=>?_,fun p hp h0 hX=>?_,fun q hq=>(by cases hq)⟩
 ·have:p=o:=by simpa using hp
  subst this
  exact ⟨ho,by rw [g,if_pos rfl];exact Int.le_refl _,by simp⟩
 ·exact Cl.reach f c (r:=o) (v:=0) ho hD p hp h0 fun z=>hX (by simpa using z)
theorem W.pop{root cur:Nat}{st:List Nat}(w:W nb n root dep par (st++[cur]) [] [] rt):W nb n root dep par st [cur] [] rt:=
 ⟨w.f,fun p hp=>w.wait p (by simpa using hp),fun p a b c=>w.cl p a b (by simpa using c),fun q hq=>(by cases hq)⟩
theorem W.close{root cur:Nat}{st:List Nat}(w:W nb n root dep par st [cur] (nb.getD cur []) rt):W nb n root dep par st [] [] rt:=by
 refine ⟨w.f,fun p hp=>w.wait p (by rcases hp with z | z;exact .inl z;cases z),fun p a b c q hq=>?_,fun q hq=>(by cases hq)⟩
 by_cases hpc:p=cur
 ·subst hpc
  obtain ⟨h1,h2⟩:=w.done q hq
  exact ⟨h1,h2.trans (w.wait p (.inr List.mem_cons_self)).2.2.symm⟩
 ·exact w.cl p a b (fun z=>by rcases z with z | z;exact c (.inl z);exact hpc (List.mem_singleton.mp z)) q hq
theorem W.old(N:Nbs nb n){root cur o:Nat}{st don:List Nat}(w:W nb n root dep par st [cur] don rt)(ha:Adj nb cur o)(hD:gD dep o≠-1):W nb n root dep par st [cur] (don++[o]) rt:=by
 have ho:=N.lt _ _ ha
 have h0:0 <= gD dep o:=by have:=(w.f.bd o ho).1;omega
 refine ⟨w.f,w.wait,w.cl,fun q hq=>?_⟩
 rcases List.mem_append.mp hq with z | z
 ·exact w.done q z
 ·rw [List.mem_singleton.mp z]
  refine ⟨h0,?_⟩
  by_cases hX:o∈st \/ o∈[cur]
  ·exact (w.wait o hX).2.2
  ·have:=(w.cl o ho h0 hX cur (N.sym _ _ ha)).2
   rw [<- this]
   exact (w.wait cur (.inr List.mem_cons_self)).2.2
theorem W.new(N:Nbs nb n){root cur o:Nat}{st don:List Nat}(w:W nb n root dep par st [cur] don rt)(ha:Adj nb cur o)(hD:gD dep o=-1):
  W nb n root (dep.set o (gD dep cur+1)) (par.set o (cur:Int)) (st++[o]) [cur] (don++[o]) (fun p=>if p=o then root else rt p):=by
 have ho:=N.lt _ _ ha
 obtain ⟨c1,c2,c3⟩:=w.wait cur (.inr List.mem_cons_self)
 have hv:0 < gD dep cur+1:=by omega
 have g:=fun {p:Nat}=>gD_set (l:=dep) (i:=o) (p:=p) (v:=gD dep cur+1) (by rw [w.f.dl];exact ho)
 have gp:=fun {p:Nat}=>gD_set (l:=par) (i:=o) (p:=p) (v:=(cur:Int)) (by rw [w.f.pl];exact ho)
 have keep:∀ q,0 <= gD dep q->rt q=root->0 <= gD (dep.set o (gD dep cur+1)) q /\ (if q=o then root else rt q)=root:=fun q a b=>by
  have hqo:q≠o:=fun z=>by rw [z,hD] at a;omega
  rw [g,if_neg hqo,if_neg hqo]
  exact ⟨a,b⟩
 have own:0 <= gD (dep.set o (gD dep cur+1)) o /\ (if o=o then root else rt o)=root:=by
  rw [g,if_pos rfl,if_pos rfl]
  exact ⟨by omega,rfl⟩
 refine ⟨w.f.reach ho hD (by rw [List.length_set];exact w.f.pl) (fun p hp=>by rw [gp,if_neg hp]) (.inr ⟨hv,cur,by rw [gp,if_pos rfl],c1,ha,by omega,c3⟩),fun p hp=>?_,fun p a b c=>?_,fun q hq=>?_⟩
 ·by_cases hpo:p=o
  ·subst hpo
   exact ⟨ho,own⟩
  ·obtain ⟨a,b,c⟩:=w.wait p (by rcases hp with z | z;rcases List.mem_append.mp z with z | z;exact .inl z;exact absurd (List.mem_singleton.mp z) hpo;exact .inr z)
   exact ⟨a,keep p b c⟩
 ·refine Cl.reach w.f w.cl (r:=root) (v:=gD dep cur+1) ho hD p a b fun z=>c ?_
  rcases z with (z | z) | z
  ·exact .inl (List.mem_append_left _ z)
  ·exact .inr z
  ·exact .inl (by rw [z];simp)
 ·rcases List.mem_append.mp hq with z | z
  ·exact keep q (w.done q z).1 (w.done q z).2
  ·rw [List.mem_singleton.mp z]
   exact own
structure Fo(nb:List (List Nat))(n:Nat)(dep par:List Int)(rt:Nat->Nat):Prop where
 f:F nb n dep par rt
 cl:Cl nb n dep rt fun _=>False
 all:∀ p,p < n->0 <= gD dep p
theorem Fo.conn(N:Nbs nb n)(f:Fo nb n dep par rt){a b:Nat}(ha:a < n)(h:Conn nb a b):rt a=rt b:=by
 have:rt a=rt b /\ b < n:=by
  induction h with
  | refl=>exact ⟨rfl,ha⟩
  | step _ e ih=>exact ⟨ih.1.trans (f.cl _ ih.2 (f.all _ ih.2) (fun z=>z) _ e).2.symm,N.lt _ _ e⟩
 exact this.1
def Link(R:Nat->Nat->Prop):List Nat->Prop
 | []=>True
 | [_]=>True
 | x :: y :: r=>R x y /\ Link R (y :: r)
theorem link_join{R:Nat->Nat->Prop}{a:Nat}{m:List Nat}(hm:Link R (a :: m)):∀ {l:List Nat},Link R (l++[a])->Link R (l++a :: m)
 | [],_=>hm
 | [x],h=>⟨h.1,hm⟩
 | x :: y :: r,h=>⟨h.1,link_join hm (l:=y :: r) h.2⟩
theorem link_snoc{R:Nat->Nat->Prop}{a b:Nat}{l:List Nat}(h:Link R (l++[a]))(e:R a b):Link R (l++[a]++[b]):=by
 rw [List.append_assoc]
 exact link_join (m:=[b]) ⟨e,trivial⟩ h
theorem link_rev{R:Nat->Nat->Prop}(s:∀ a b,R a b->R b a):∀ {l:List Nat},Link R l->Link R l.reverse
 | [],_=>trivial
 | [x],_=>trivial
 | x :: y :: r,h=>by
  have ih:=link_rev s (l:=y :: r) h.2
  rw [List.reverse_cons] at ih
  rw [List.reverse_cons,List.reverse_cons]
  exact link_snoc ih (s _ _ h.1)
theorem link_get{R:Nat->Nat->Prop}:∀ {l:List Nat} {k x y:Nat},Link R l->l[k]?=some x->l[k+1]?=some y->R x y
 | [],_,_,_,_,h,_=>by simp at h
 | [a],_,_,_,_,_,h=>by simp at h
 | a :: b :: r,0,x,y,h,h1,h2=>by
  cases (by simpa using h1:a=x)
  cases (by simpa using h2:b=y)
  exact h.1
 | a :: b :: r,k+1,x,y,h,h1,h2=>link_get (l:=b :: r) (k:=k) h.2 (by simpa using h1) (by simpa using h2)
structure Pt(nb:List (List Nat))(n:Nat)(dep:List Int)(rt:Nat->Nat)(c d:Nat)(i1:List Nat)(a:Nat)(i2:List Nat)(b:Nat):Prop where
 an:a < n
 bn:b < n
 s1:∀ v∈i1,v < n
 s2:∀ v∈i2,v < n
 l1:Link (Adj nb) (i1++[a])
 l2:Link (Adj nb) (i2++[b])
 f1:(i1++[a]).head?=some c
 f2:(i2++[b]).head?=some d
 d1:gD dep a+i1.length=gD dep c
 d2:gD dep b+i2.length=gD dep d
 r:rt a=rt b
 a1:∀ v∈i1,gD dep a < gD dep v /\ gD dep b <= gD dep v
 b2:∀ v∈i2,gD dep b < gD dep v /\ gD dep a < gD dep v
 n1:i1.Nodup
 n2:i2.Nodup
 x1:∀ v∈i1,v∉i2 /\ v≠b
 x2:∀ v∈i2,v≠a
theorem head_snoc{α:Type}{l:List α}{a b c:α}(h:(l++[a]).head?=some c):(l++[a]++[b]).head?=some c:=by
 cases l with
 | nil=>exact h
 | cons x r=>exact h
theorem nodup_snoc{l:List Nat}{a:Nat}(h:l.Nodup)(ha:a∉l):(l++[a]).Nodup:=by
 rw [List.nodup_append]
 exact ⟨h,by simp,fun x hx y hy z=>ha (by rw [<- List.mem_singleton.mp hy,<- z];exact hx)⟩
variable {c d:Nat} {i1 i2:List Nat} {a b:Nat}
theorem Pt.one(N:Nbs nb n)(f:Fo nb n dep par rt)(p:Pt nb n dep rt c d i1 a i2 b)(hne:a≠b)(hd:gD dep b <= gD dep a):
  ∃ a':Nat,gD par a=(a':Int) /\ gD dep a'=gD dep a - 1 /\ Pt nb n dep rt c d (i1++[a]) a' i2 b:=by
 have ha0:=f.all a p.an
 have hb0:=f.all b p.bn
 have hpos:0 < gD dep a:=by
  rcases Int.lt_or_le 0 (gD dep a) with z | z
  ·exact z
  ·have h1:=f.f.ro a p.an (by omega)
   have h2:=f.f.ro b p.bn (by omega)
   exact absurd (h1.symm.trans (p.r.trans h2)) hne
 obtain ⟨q,q1,q2,q3,q4,q5⟩:=f.f.up a p.an hpos
 refine ⟨q,q1,q4,q2,p.bn,fun v hv=>?_,p.s2,link_snoc p.l1 (N.sym _ _ q3),p.l2,head_snoc p.f1,p.f2,?_,p.d2,q5.trans p.r,fun v hv=>?_,fun v hv=>?_,nodup_snoc p.n1 fun z=>?_,p.n2,fun v hv=>?_,fun v hv z=>?_⟩
 ·rcases List.mem_append.mp hv with z | z
  ·exact p.s1 v z
  ·rw [List.mem_singleton.mp z];exact p.an
 ·rw [List.length_append];have:=p.d1;simp only [List.length_cons,List.length_nil];omega
 ·rcases List.mem_append.mp hv with z | z
  ·have:=p.a1 v z;omega
  ·rw [List.mem_singleton.mp z];omega
 ·have:=p.b2 v hv;omega
 ·have:=p.a1 a z;omega
 ·rcases List.mem_append.mp hv with z | z
  ·exact p.x1 v z
  ·rw [List.mem_singleton.mp z];exact ⟨fun w=>p.x2 a w rfl,hne⟩
 ·have:=p.b2 v hv;rw [z] at this;omega
theorem Pt.two(N:Nbs nb n)(f:Fo nb n dep par rt)(p:Pt nb n dep rt c d i1 a i2 b)(hne:a≠b)(hd:gD dep a < gD dep b):
  ∃ b':Nat,gD par b=(b':Int) /\ gD dep b'=gD dep b - 1 /\ Pt nb n dep rt c d i1 a (i2++[b]) b':=by
 have ha0:=f.all a p.an
 obtain ⟨q,q1,q2,q3,q4,q5⟩:=f.f.up b p.bn (by omega)
 refine ⟨q,q1,q4,p.an,q2,p.s1,fun v hv=>?_,p.l1,link_snoc p.l2 (N.sym _ _ q3),p.f1,head_snoc p.f2,p.d1,?_,p.r.trans q5.symm,fun v hv=>?_,fun v hv=>?_,p.n1,nodup_snoc p.n2 fun z=>?_,fun v hv=>?_,fun v hv z=>?_⟩
 ·rcases List.mem_append.mp hv with z | z
  ·exact p.s2 v z
  ·rw [List.mem_singleton.mp z];exact p.bn
 ·rw [List.length_append];have:=p.d2;simp only [List.length_cons,List.length_nil];omega
 ·have:=p.a1 v hv;omega
 ·rcases List.mem_append.mp hv with z | z
  ·have:=p.b2 v z;omega
  ·rw [List.mem_singleton.mp z];omega
 ·have:=p.b2 b z;omega
 ·have h1:=p.a1 v hv
  refine ⟨fun z=>?_,fun z=>by rw [z] at h1;omega⟩
  rcases List.mem_append.mp z with z | z
  ·exact (p.x1 v hv).1 z
  ·exact (p.x1 v hv).2 (List.mem_singleton.mp z)
 ·rcases List.mem_append.mp hv with w | w
  ·exact p.x2 v w z
  ·exact hne ((List.mem_singleton.mp w).symm.trans z).symm
structure Ring(nb:List (List Nat))(n c d:Nat)(l:List Nat):Prop where
 link:Link (Adj nb) l
 nd:l.Nodup
 lt:∀ v∈l,v < n
 first:l.head?=some c
 last:l.getLast?=some d
theorem Pt.ring(N:Nbs nb n)(p:Pt nb n dep rt c d i1 a i2 a):Ring nb n c d (i1++[a]++i2.reverse) /\ ((i1++[a]++i2.reverse).length:Int)=gD dep c+gD dep d - 2*gD dep a+1:=by
 have e:i1++[a]++i2.reverse=i1++a :: i2.reverse:=by simp
 have h2:=link_rev N.sym p.l2
 rw [List.reverse_append] at h2
 refine ⟨⟨by rw [e];exact link_join h2 p.l1,?_,fun v hv=>?_,?_,?_⟩,?_⟩
 ·rw [List.nodup_append]
  refine ⟨nodup_snoc p.n1 fun z=>?_,(List.reverse_perm i2).nodup_iff.mpr p.n2,fun x hx y hy z=>?_⟩
  ·have:=(p.x1 a z).2;exact this rfl
  ·subst z
   rw [List.mem_reverse] at hy
   rcases List.mem_append.mp hx with w | w
   ·exact (p.x1 x w).1 hy
   ·exact p.x2 x hy (List.mem_singleton.mp w)
 ·rcases List.mem_append.mp hv with z | z
  ·rcases List.mem_append.mp z with z | z
   ·exact p.s1 v z
   ·rw [List.mem_singleton.mp z];exact p.an
  ·exact p.s2 v (List.mem_reverse.mp z)
 ·rw [e,<- p.f1]
  cases i1<;>rfl
 ·rw [<- p.f2,List.getLast?_append,List.getLast?_append,List.getLast?_reverse]
  cases i2 with
  | nil=>rfl
  | cons x r=>rfl
 ·have h3:=p.d1
  have h4:=p.d2
  rw [List.length_append,List.length_append,List.length_reverse]
  simp only [List.length_cons,List.length_nil]
  omega
end
end Gp
namespace My
open PySem L2
def rot(l:List Nat):List Nat:=l.drop 1++l.take 1
theorem rot_len(l:List Nat):(rot l).length=l.length:=by
 unfold rot
 rw [List.length_append,List.length_drop,List.length_take]
 omega
theorem rot_get{l:List Nat}{k:Nat}(h:k < l.length):(rot l)[k]?=l[(k+1) % l.length]?:=by
 unfold rot
 by_cases hk:k+1 < l.length
 ·rw [Nat.mod_eq_of_lt hk,List.getElem?_append_left (by rw [List.length_drop];omega),List.getElem?_drop,Nat.add_comm]
 ·have e:k+1=l.length:=by omega
  rw [e,Nat.mod_self,List.getElem?_append_right (by rw [List.length_drop];omega),List.length_drop,show k - (l.length - 1)=0 by omega]
  rw [List.getElem?_take_of_lt (by decide)]
def shI(ord ring:List Nat):List Int:=(ring.zip (rot ring)).map fun x=>mx (ord.take (ord.idxOf (min x.1 x.2)))
structure OddOk(T:List Int)(ring sh:List Nat):Prop where
 len:sh.length=ring.length
 odd:ring.length % 2=1
 three:3 <= ring.length
 nd:ring.Nodup
 at_:∀ k,k < ring.length->Yd.AtOdds T (ring.getD k 0) (ring.getD ((k+1) % ring.length) 0) (sh.getD k 0)
theorem od_shown{T:List Int}{ord:List Nat}(B:Gp.By T ord){a b:Nat}(h:Gp.Od T a b):∃ s:Nat,mx (ord.take (ord.idxOf a))=(s:Int) /\ b < s /\ s < T.length /\ T.getD s 0 < T.getD a 0:=by
 obtain ⟨hab,hT,k,hk,hkn,hkT⟩:=h
 have hi:=(B.lt k a hkn (by omega)).mp hkT
 have hm:k∈ord.take (ord.idxOf a):=List.mem_of_getElem? (i:=ord.idxOf k) (by rw [List.getElem?_take_of_lt hi];exact B.o.at_ hkn)
 obtain ⟨s,hs,es⟩:=mx_mem hm
 have hmax:=mx_max hm
 have hsn:s < T.length:=(B.o.mem s).mp (List.mem_of_mem_take hs)
 refine ⟨s,es,by omega,hsn,(B.lt s a hsn (by omega)).mpr ?_⟩
 obtain ⟨i,hil,ei⟩:=List.getElem_of_mem hs
 rw [List.length_take] at hil
 rw [List.getElem_take] at ei
 rw [B.o.idx (show ord[i]?=some s by rw [List.getElem?_eq_getElem (by omega),ei])]
 omega
theorem odd_ok{T:List Int}{ord ring:List Nat}{nb:List (List Nat)}{c d:Nat}(B:Gp.By T ord)(G:Gp.Gr T nb)(R:Gp.Ring nb T.length c d ring)(hcd:Gp.Od T c d)(hodd:ring.length % 2=1):∃ sh:List Nat,shI ord ring=sh.map (fun (p:Nat)=>(p:Int)) /\ OddOk T ring sh:=by
 have hne:c≠d:=Nat.ne_of_lt hcd.1
 have h3:3 <= ring.length:=by
  have h1:=R.first
  have h2:=R.last
  rcases ring with _ | ⟨x,_ | ⟨y,_ | ⟨z,r⟩⟩⟩
  ·cases h1
  ·cases h1
   cases h2
   exact absurd rfl hne
  ·simp at hodd
  ·simp only [List.length_cons];omega
 have lk:∀ k a b,ring[k]?=some a->ring[(k+1) % ring.length]?=some b->Gp.Od T (min a b) (max a b):=fun k a b e1 e2=>by
  have hk:=(List.getElem?_eq_some_iff.mp e1).1
  by_cases hl:k+1 < ring.length
  ·rw [Nat.mod_eq_of_lt hl] at e2
   exact G.od a b (Gp.link_get R.link e1 e2)
  ·have e:k+1=ring.length:=by omega
   rw [e,Nat.mod_self] at e2
   have h1:=R.first
   have h2:=R.last
   rw [List.head?_eq_getElem?,e2] at h1
   rw [List.getLast?_eq_getElem?,show ring.length - 1=k by omega,e1] at h2
   cases h1
   cases h2
   rw [Nat.min_eq_right (Nat.le_of_lt hcd.1),Nat.max_eq_left (Nat.le_of_lt hcd.1)]
   exact hcd
 have hz:(ring.zip (rot ring)).length=ring.length:=by rw [List.length_zip,rot_len,Nat.min_self]
 have zg:∀ k a b,ring[k]?=some a->ring[(k+1) % ring.length]?=some b->(ring.zip (rot ring))[k]?=some (a,b):=fun k a b e1 e2=>by
  have hk:=(List.getElem?_eq_some_iff.mp e1).1
  rw [List.getElem?_zip_eq_some]
  exact ⟨e1,by rw [rot_get hk];exact e2⟩
 have ex:∀ k,k < ring.length->∃ a b,ring[k]?=some a /\ ring[(k+1) % ring.length]?=some b:=fun k hk=>⟨_,_,List.getElem?_eq_getElem hk,List.getElem?_eq_getElem (Nat.mod_lt _ (by omega))⟩
 refine ⟨(shI ord ring).map Int.toNat,?_,by rw [List.length_map];unfold shI;rw [List.length_map,hz],hodd,h3,R.nd,fun k hk=>?_⟩
 ·refine List.ext_getElem? fun k=>?_
  rw [List.getElem?_map,List.getElem?_map]
  by_cases hk:k < ring.length
  ·obtain ⟨a,b,e1,e2⟩:=ex k hk
   obtain ⟨s,es,_⟩:=od_shown B (lk k a b e1 e2)
   unfold shI
   rw [List.getElem?_map,zg k a b e1 e2]
   show some (mx _)=some (((mx _).toNat:Nat):Int)
   show some (mx (ord.take (ord.idxOf (min a b))))=some (((mx (ord.take (ord.idxOf (min a b)))).toNat:Nat):Int)
   rw [es]
   rfl
  ·rw [List.getElem?_eq_none_iff.mpr (by unfold shI;rw [List.length_map,hz];omega)]
   rfl
 ·obtain ⟨a,b,e1,e2⟩:=ex k hk
  have ho:=lk k a b e1 e2
  obtain ⟨s,es,s1,s2,s3⟩:=od_shown B ho
  have g1:ring.getD k 0=a:=by rw [List.getD_eq_getElem?_getD,e1];rfl
  have g2:ring.getD ((k+1) % ring.length) 0=b:=by rw [List.getD_eq_getElem?_getD,e2];rfl
  have g3:((shI ord ring).map Int.toNat).getD k 0=s:=by
   rw [List.getD_eq_getElem?_getD,List.getElem?_map]
   unfold shI
   rw [List.getElem?_map,zg k a b e1 e2]
   show (mx (ord.take (ord.idxOf (min a b)))).toNat=s
   rw [es]
   exact Int.toNat_natCast s
  rw [g1,g2,g3]
  exact ⟨ho.1,s1,s2,s3,ho.2.1⟩
end My
namespace My
end My
namespace L2
open PySem
end L2
namespace L2
open PySem PySem.Spec PyProof.Rows
theorem cf_look:∀ (l:List (Str × NameKind)) (n:Nat) (acc:List (Str × Addr)) (x:Str) (c:Addr),(cellsFrom n l acc).lookup x=some c->acc.lookup x=some c \/ (n <= c /\ (x,NameKind.cell)∈l)
 | [],n,acc,x,c,h=>.inl h
 | (y,k) :: r,n,acc,x,c,h=>by
  unfold cellsFrom at h
  split at h
  ·rename_i hk
   have hk':k=.cell:=by simpa using hk
   rcases cf_look r (n+1) _ x c h with z | ⟨z1,z2⟩
   ·rw [look_cons] at z
    by_cases ex:(x==y)=true
    ·rw [if_pos ex] at z
     cases z
     have:x=y:=by simpa using ex
     exact .inr ⟨Nat.le_refl _,by rw [this,hk'];exact List.mem_cons_self⟩
    ·rw [if_neg ex] at z
     exact .inl z
   ·exact .inr ⟨by omega,List.mem_cons_of_mem _ z2⟩
  ·rcases cf_look r n _ x c h with z | ⟨z1,z2⟩
   ·exact .inl z
   ·exact .inr ⟨z1,List.mem_cons_of_mem _ z2⟩
theorem cf_keep:∀ (l:List (Str × NameKind)) (n:Nat) (acc:List (Str × Addr)) (x:Str),(x,NameKind.cell)∉l->(cellsFrom n l acc).lookup x=acc.lookup x
 | [],n,acc,x,h=>rfl
 | (y,k) :: r,n,acc,x,h=>by
  have hr:(x,NameKind.cell)∉r:=fun z=>h (List.mem_cons_of_mem _ z)
  unfold cellsFrom
  split
  ·rename_i hk
   have hk':k=.cell:=by simpa using hk
   rw [cf_keep r _ _ x hr,look_cons,if_neg]
   intro ex
   have:x=y:=by simpa using ex
   exact h (by rw [this,hk'];exact List.mem_cons_self)
  ·exact cf_keep r _ _ x hr
theorem cf_inj:∀ (l:List (Str × NameKind)) (n:Nat) (acc:List (Str × Addr)),(∀ x y c,acc.lookup x=some c->acc.lookup y=some c->x=y)->(∀ x c,acc.lookup x=some c->c < n)->∀ x y c,(cellsFrom n l acc).lookup x=some c->(cellsFrom n l acc).lookup y=some c->x=y
 | [],n,acc,hi,hl=>hi
 | (z,k) :: r,n,acc,hi,hl=>by
  unfold cellsFrom
  split
  ·refine cf_inj r (n+1) _ (fun x y c h1 h2=>?_) fun x c h=>?_
   ·rw [look_cons] at h1 h2
    by_cases ex:(x==z)=true<;>by_cases ey:(y==z)=true
    ·have a:x=z:=by simpa using ex
     have b:y=z:=by simpa using ey
     rw [a,b]
    ·rw [if_pos ex] at h1
     rw [if_neg ey] at h2
     cases h1
     exact absurd (hl y _ h2) (Nat.lt_irrefl _)
    ·rw [if_neg ex] at h1
     rw [if_pos ey] at h2
     cases h2
     exact absurd (hl x _ h1) (Nat.lt_irrefl _)
    ·rw [if_neg ex] at h1
     rw [if_neg ey] at h2
     exact hi x y c h1 h2
   ·rw [look_cons] at h
    by_cases ex:(x==z)=true
    ·rw [if_pos ex] at h
     cases h
     exact Nat.lt_succ_self _
    ·rw [if_neg ex] at h
     exact Nat.lt_succ_of_lt (hl x c h)
  ·exact cf_inj r n acc hi hl
theorem cf_cell:∀ (l:List (Str × NameKind)) (h:Heap) (acc:List (Str × Addr)) (x:Str) (c:Addr),(cellsFrom h.objs.size l acc).lookup x=some c->acc.lookup x=some c \/ (pushCells h l).IsCell c none
 | [],h,acc,x,c,e=>.inl e
 | (y,k) :: r,h,acc,x,c,e=>by
  unfold cellsFrom at e
  unfold pushCells
  split at e
  ·rename_i hk
   rw [if_pos hk]
   rw [show h.objs.size+1=(h.push { cls:=.type "cell",data:=.cell none }).objs.size from (Heap.size_push ..).symm] at e
   rcases cf_cell r (h.push { cls:=.type "cell",data:=.cell none }) _ x c e with z | z
   ·rw [look_cons] at z
    by_cases ex:(x==y)=true
    ·rw [if_pos ex] at z
     cases z
     exact .inr ⟨_,pushCells_keeps r _ _ _ (Heap.get?_push_size _ rfl),rfl⟩
    ·rw [if_neg ex] at z
     exact .inl z
   ·exact .inr z
  ·rename_i hk
   rw [if_neg hk]
   exact cf_cell r h acc x c e
section
variable {M:Model} {A:Around} {E:Value->Shared->Prop} {s:Shared}
theorem nfe_cells{scope:Scope}{globals:Addr}{closure:List (Str × Addr)}{qual:Str}{func:Option Addr}{code:Value}{out:Env}{builtins:Addr}{Q:Env->Shared->Prop}
  (hQ:Q (newEnv scope s.heap.objs.size globals (cellsFrom (s.heap.objs.size+1) scope.names closure) qual func code (some out) builtins) { s with heap:=pushCells (s.heap.push { cls:=.type "dict",data:=.dict #[] }) scope.names }):
  wpAny M A (newFunctionEnv scope globals closure [] qual func code (some out) builtins) Q E s:=by
 simp only [newFunctionEnv,Option.isSome_some,if_true]
 refine wpAny_bind (wpAny_alloc ?_)
 refine wpAny_bind (wpAny_layCells _ (fun name kind cells=>by cases hkc:kind==NameKind.cell<;>simp [hkc]) _ _ _ _ ?_)
 rw [show ({ s with heap:=s.heap.push { cls:=.type "dict",data:=.dict #[] } }:Shared).heap.objs.size=s.heap.objs.size+1 from Heap.size_push ..]
 simp only [List.forIn_nil]
 exact wpAny_bind (wpAny_pure (wpAny_pure hQ))
end
end L2
namespace L2
open PySem PySem.Spec PyProof.Rows
abbrev celC(X:Cx)(scope:Scope)(C:Addr):List (Str × Addr):=cellsFrom (C+1) scope.names (compCl X.env scope.names [])
def compCxC(X:Cx)(scope:Scope)(N':List Str)(C:Addr)(s2:Shared)(H2:Hp)(fp:List Addr)(E:Value->Shared->Prop):Cx where
 prog:=X.prog
 w:=X.w
 K:=X.K
 mg:=X.mg
 base:=X.base
 A:=X.A
 N:=N'
 s₀:=s2
 H₀:=H2
 env:=compEnvC scope (celC X scope C) C X.env
 outer:=X.stack
 stack:=X.stack
 ex:=fp
 fn:=fun x=>scope.names.lookup x==some .cell
 calm:=X.calm
 pn:=[]
 xe:=E
structure CScC(X:Cx)(scope:Scope)(N':List Str)(cap:List (Option Nat)):Prop where
 kind:scope.kind=.function
 cells:∀ y∈scope.names,y.2=.cell->scope.names.lookup y.1=some .cell
 frees:∀ y∈scope.names,y.2=.free->scope.names.lookup y.1=some .free
 names:∀ y∈scope.names,y.2=.local->scope.names.lookup y.1=some .local
 free:∀ y∈scope.names,y.2=.free->X.env.kindOf y.1=some .cell \/ X.env.kindOf y.1=some .free
 len:cap.length=N'.length
 cap:∀ i∈List.range cap.length,∀ j∈(cap[i]?).join,N'[i]?=X.N[j]? /\ (N'[i]?).isSome=true /\ (N'[i]?).bind (fun n=>scope.names.lookup n)=some .free
theorem compCl_mem'{env:Env}:∀ (l:List (Str × NameKind)) (acc:List (Str × Addr)) {x:Str} {c:Addr},(compCl env l acc).lookup x=some c->acc.lookup x=some c \/ (x,NameKind.free)∈l
 | [],acc,x,c,h=>.inl h
 | (n,k) :: r,acc,x,c,h=>by
  rcases compCl_mem' r _ (show (compCl env r (if k==.free then (n,(env.cells.lookup n).getD 0) :: acc else acc)).lookup x=some c from h) with z | z
  ·by_cases ek:(k==NameKind.free)=true
   ·rw [if_pos ek,look_cons] at z
    by_cases ex:(x==n)=true
    ·have a:x=n:=by simpa using ex
     have b:k=.free:=by simpa using ek
     exact .inr (by rw [a,b];exact List.mem_cons_self)
    ·rw [if_neg ex] at z
     exact .inl z
   ·rw [if_neg ek] at z
    exact .inl z
  ·exact .inr (List.mem_cons_of_mem _ z)
theorem compCl_mem{env:Env}(l:List (Str × NameKind)){x:Str}{c:Addr}(_:True)(h:(compCl env l []).lookup x=some c):(x,NameKind.free)∈l /\ True:=by
 rcases compCl_mem' l [] h with z | z
 ·cases z
 ·exact ⟨z,trivial⟩
theorem relN_invC{env:Env}:∀ {l:List (Str × NameKind)} {x:Str},((relN env l).lookup x=some .cell \/ (relN env l).lookup x=some .free)->l.lookup x=some .free \/ l.lookup x=some .cell
 | [],x,h=>by rcases h with h | h<;>cases h
 | (n,k) :: r,x,h=>by
  rw [relN_cons] at h
  rw [lk_cons]
  by_cases ex:(x==n)=true
  ·rw [if_pos ex] at h ⊢
   by_cases c:(k==NameKind.free&&env.scope.kind==.function&&env.kindOf n==some .cell)=true
   ·have:k=.free:=by
     simp only [Bool.and_eq_true] at c
     simpa using c.1.1
    rw [this]
    exact .inl rfl
   ·simp only [if_neg c] at h
    exact h.symm
  ·rw [if_neg ex] at h ⊢
   exact relN_invC h
section
variable {X:Cx} {pins:List (Addr × Obj)} {σ:St} {H:Hp} {s:Shared}
theorem Inv.cellOfC(I:Inv X pins σ H s){scope:Scope}{N':List Str}{cap:List (Option Nat)}(S:CScC X scope N' cap):∀ y∈scope.names,y.2=.free->∃ c,X.env.cells.lookup y.1=some c:=fun y hy e=>I.ok.has y.1 (S.free y hy e)
theorem Inv.clLookC(I:Inv X pins σ H s){scope:Scope}{N':List Str}{cap:List (Option Nat)}(S:CScC X scope N' cap){x:Str}{c:Addr}(e:(compCl X.env scope.names []).lookup x=some c):X.env.cells.lookup x=some c:=by
 rcases compCl_look scope.names [] x c (I.cellOfC S) e with h | h
 ·cases h
 ·exact h
theorem Inv.celLook(I:Inv X pins σ H s){scope:Scope}{N':List Str}{cap:List (Option Nat)}(S:CScC X scope N' cap){C:Addr}{x:Str}{c:Addr}(e:(celC X scope C).lookup x=some c):X.env.cells.lookup x=some c \/ C+1 <= c:=by
 rcases cf_look _ _ _ x c e with z | z
 ·exact .inl (I.clLookC S z)
 ·exact .inr z.1
theorem Inv.celLt(I:Inv X pins σ H s){x:Str}{c:Addr}(e:X.env.cells.lookup x=some c):c < s.heap.objs.size:=by
 obtain ⟨v,o,z,_⟩:=I.cell x c e
 exact Heap.lt_size z
theorem cell_in{l:List (Str × NameKind)}{x:Str}(n:Nat)(acc:List (Str × Addr))(h:l.lookup x=some .cell):∃ c,(cellsFrom n l acc).lookup x=some c:=Option.isSome_iff_exists.mp (PySem.W.cellsFrom_some l n acc (.inl h))
theorem Inv.compOkC(I:Inv X pins σ H s){scope:Scope}{N':List Str}{cap:List (Option Nat)}(S:CScC X scope N' cap){fp:List Addr}{C:Addr}{E:Value->Shared->Prop}(hC:s.heap.objs.size <= C)(hf:∀ b∈fp,FpOk X pins H b)
  (ho:∀ b∈fp,b < s.heap.objs.size):(compCxC X scope N' C s H fp E).Ok:=by
 have nst:∀ b∈fp,b∉frs X.stack:=fun b hb z=>by
  obtain ⟨_,f1,f2,_⟩:=hf b hb
  rcases List.mem_cons.mp (I.stkSub b z) with e | e
  ·exact f1 e
  ·exact f2 e
 refine ⟨I.ok.mod,S.kind,I.ok.glob,I.ok.blt,hC,?_,fun x hx=>?_,fun x c hfn e=>?_,I.ok.hd,I.ok.frames,.inl rfl,fun b hb=>⟨?_,fun x c e=>?_⟩,fun b o e=>I.bs b o e,Nat.le_trans I.ok.bsz I.sz,fun b o e hb=>?_,nst,I.stack,I.stkFree⟩
 ·exact cf_inj _ _ _ (fun x y c h1 h2=>I.ok.inj x y c (I.clLookC S h1) (I.clLookC S h2)) fun x c e=>Nat.lt_succ_of_lt (Nat.lt_of_lt_of_le (I.celLt (I.clLookC S e)) hC)
 ·rcases relN_invC hx with q | q
  ·have q':(x,NameKind.cell)∉scope.names:=fun z=>by have:=S.cells _ z rfl;rw [q] at this;cases this
   obtain ⟨c,hc⟩:=compCl_has (env:=X.env) scope.names [] x (PySem.mem_of_lookup q)
   exact ⟨c,(cf_keep _ _ _ x q').trans hc⟩
  ·exact cell_in _ _ q
 ·have hfn':(scope.names.lookup x==some NameKind.cell)=true:=hfn
  have hx:scope.names.lookup x=some .cell:=by simpa using hfn'
  rcases cf_look _ _ _ x c e with z | z
  ·exfalso
   have:=S.frees _ (compCl_mem _ trivial z).1 rfl
   rw [hx] at this
   cases this
  ·exact Nat.le_trans hC (Nat.le_of_succ_le z.1)
 ·exact Nat.ne_of_lt (Nat.lt_of_lt_of_le (ho b hb) hC)
 ·rcases I.celLook S e with z | z
  ·exact (hf b hb).2.2.2.2.1 x c z
  ·exact Nat.ne_of_gt (Nat.lt_of_lt_of_le (ho b hb) (Nat.le_trans hC (Nat.le_of_succ_le z)))
 ·rcases (hf b hb).2.2.2.1 with z | z
  ·exact I.ok.noex b o e z
  ·exact absurd (Nat.lt_of_lt_of_le (Heap.lt_size e) (Nat.le_trans I.ok.bsz z)) (Nat.lt_irrefl _)
end
end L2
namespace L2
open PySem PySem.Spec PyProof.Rows
section
variable {X:Cx} {pins:List (Addr × Obj)} {σ:St} {H:Hp} {s:Shared}
theorem Inv.compStartC(I:Inv X pins σ H s){scope:Scope}{N':List Str}{cap:List (Option Nat)}(S:CScC X scope N' cap){fp:List Addr}{D C:Addr}{h1:Heap}{m:Str->Option Value}{tk:Nat}{E:Value->Shared->Prop}
  (hD:s.heap.objs.size <= D) (hC:s.heap.objs.size <= C) (hDC:D < C) (hf:∀ b∈fp,FpOk X pins H b) (ho:∀ b∈fp,b < s.heap.objs.size)
  (k:∀ b o,s.heap.get? b=some o->h1.get? b=some o) (hd:h1.get? D=some { cls:=.type "list",data:=.seq #[] }) (hn:h1.Ns C m) (hcs:∀ x c,(celC X scope C).lookup x=some c->(compCl X.env scope.names []).lookup x=some c \/ h1.IsCell c none):
  Inv (compCxC X scope N' C s H fp E) [] (capS cap σ) (upd H D (.lst [])) { s with heap:=h1,toks:=tk }:=by
 have lt:∀ b o,s.heap.get? b=some o->b≠D:=fun b o e=>Nat.ne_of_lt (Nat.lt_of_lt_of_le (Heap.lt_size e) hD)
 refine ⟨I.compOkC S hC hf ho,rfl,I.bare,Un.laid k hD (I.hok.fresh hD),⟨m,hn,fun i x v e1 e2 e3=>?_⟩,fun x c e=>?_,?_,fun x c e=>?_,fun p hp=>absurd (show p∈([]:List (Addr × Obj)) from hp) (by simp),
  I.hok.laid k hD ⟨Nat.zero_le _,[],_,.nil,hd⟩,by unfold capS;rw [List.length_map];exact S.len⟩
 ·
  have e2':(cap.map fun o=>o.bind fun j=>(σ[j]?).join)[i]?=some (some v):=e2
  rw [List.getElem?_map] at e2'
  cases hc:cap[i]? with
  | none=>rw [hc] at e2';cases e2'
  | some o=>
   rw [hc] at e2'
   have e2'':(o.bind fun j=>(σ[j]?).join)=some v:=Option.some.inj e2'
   cases o with
   | none=>cases e2''
   | some j=>
    have hv:(σ[j]?).join=some v:=e2''
    have hσ:σ[j]?=some (some v):=by
     cases q:σ[j]? with
     | none=>rw [q] at hv;cases hv
     | some w'=>rw [q] at hv;rw [show w'=some v from hv]
    have hi:i∈List.range cap.length:=List.mem_range.mpr (List.getElem?_eq_some_iff.mp hc).1
    obtain ⟨a1,_,a3⟩:=S.cap i hi j (by rw [hc];rfl)
    have e1':N'[i]?=some x:=e1
    rw [e1'] at a1 a3
    have a3':scope.names.lookup x=some .free:=a3
    have hk:=S.free _ (PySem.mem_of_lookup a3') rfl
    have hk':X.env.kindOf x=some .cell \/ X.env.kindOf x=some .free:=hk
    obtain ⟨m0,hn0,hl⟩:=I.loc
    obtain ⟨u,ru,lk⟩:=hl j x v a1.symm hσ (hk'.elim (fun z=>.inr (.inl z)) fun z=>.inr (.inr z))
    refine ⟨u,ru,?_⟩
    rcases lk with ⟨z,_⟩ | ⟨_,c,ec,hcell⟩
    ·rcases hk' with q | q
     ·rw [z] at q;cases q
     ·rw [z] at q;cases q
    ·obtain ⟨c',ec'⟩:=compCl_has (env:=X.env) scope.names [] x (PySem.mem_of_lookup a3')
     have:c'=c:=Option.some.inj ((I.clLookC S ec').symm.trans ec)
     subst this
     exact .inr ⟨relN_free (env:=X.env) a3',c',(cf_keep _ _ _ x fun z=>by have:=S.cells _ z rfl;rw [a3'] at this;cases this).trans ec',hcell.keeps k⟩
 ·rcases hcs x c e with z | z
  ·obtain ⟨v,z⟩:=I.cell x c (I.clLookC S z)
   exact ⟨v,z.keeps k⟩
  ·exact ⟨_,z⟩
 ·show upd H D _ C=none
  rw [upd_ne (Nat.ne_of_gt hDC)]
  exact I.hok.fresh hC
 ·rcases I.celLook S e with z | z
  ·obtain ⟨v,o,q,_⟩:=I.cell x c z
   rw [upd_ne (lt c o q)]
   exact I.freeC x c z
  ·rw [upd_ne (Nat.ne_of_gt (Nat.lt_trans hDC z))]
   exact I.hok.fresh (Nat.le_trans hC (Nat.le_of_succ_le z))
theorem Inv.compBackC{scope:Scope}{N':List Str}{fp:List Addr}{C:Addr}{E:Value->Shared->Prop}{pins':List (Addr × Obj)}{σ':St}{H':Hp}{s':Shared}(I:Inv X pins σ H s)(hf:∀ b∈fp,FpOk X pins H b)
  (J:Inv (compCxC X scope N' C s H fp E) pins' σ' H' s'):Inv X pins σ H' s':=
 I.call' (ch:=fp) J.os J.base J.hok J.bare fun b hb=>⟨(hf b hb).2.2.2.1,(hf b hb).2.1,(hf b hb).2.2.2.2.1,(hf b hb).2.2.2.2.2⟩
theorem comp_coreC{elt tg iter:Expr}{ifs:List Expr}{scope:Scope}{pos:Pos}{N':List Str}{cap:List (Option Nat)}{wi:TI}{g:TG}{tst:TT}{te:TE}{Q:VK}(hc:X.calm=true)(S:CScC X scope N' cap)(hi:PI X tg iter wi)
  (hg:∀ C s2 H2 fp,PG (compCxC X scope N' C s2 H2 fp fun _ _=>False) tg g) (ht:∀ C s2 H2 fp,PIfs (compCxC X scope N' C s2 H2 fp fun _ _=>False) ifs tst)
  (he:∀ C s2 H2 fp,PE (compCxC X scope N' C s2 H2 fp fun _ _=>False) elt te) (I:Inv X pins σ H s) (h:tComp wi cap g tst te σ H Q):
  wpAny (model X.prog X.w) X.A (eval iter X.env) (fun x s1=>wpAny (model X.prog X.w) X.A (pyIter x) (fun it s2=>wpAny (model X.prog X.w) X.A (newList []) (fun acc s3=>
   wpAny (model X.prog X.w) X.A (newFunctionEnv scope X.env.globals (compCl X.env scope.names []) [] X.env.qual none .none (some X.env)) (fun cenv s4=>
    codeAny (model X.prog X.w) X.A (.compStart (.ListComp elt [⟨tg,iter,ifs,0⟩] scope pos) 0 it acc { cenv with scope:=relabel scope X.env }) (CompEnd X pins σ Q acc cenv.locals) s4) X.xe s3) X.xe s2) X.xe s1) X.xe s:=by
 refine thn (hi pins s σ H _ I h) fun v s1 h1=>thn h1 fun itv s2 h2=>?_
 obtain ⟨it,fp,tn,J,H2,e,I2,T,st2,f2,q⟩:=h2
 subst e
 have ho:∀ b∈fp,b < s2.heap.objs.size:=fun b hb=>by
  obtain ⟨o,e,_⟩:=T.obj _ _ st2 b hb
  exact Heap.lt_size e
 refine wpAny_newObj_type (nfe_cells ?_)
 have hDn:s2.heap.objs.size≠(s2.heap.push { cls:=.type "list",dict:=none,data:=.seq ([]:List Value).toArray }).objs.size:=by rw [Heap.size_push];exact Nat.ne_of_lt (Nat.lt_succ_self _)
 have hCle:s2.heap.objs.size <= (s2.heap.push { cls:=.type "list",dict:=none,data:=.seq ([]:List Value).toArray }).objs.size:=by rw [Heap.size_push];exact Nat.le_succ _
 generalize hL:s2.heap.push { cls:=.type "list",dict:=none,data:=.seq ([]:List Value).toArray }=hl at hDn hCle ⊢
 have szl:hl.objs.size=s2.heap.objs.size+1:=by rw [<- hL];exact Heap.size_push ..
 have old:∀ b o,s2.heap.get? b=some o->(pushCells (hl.push { cls:=.type "dict",data:=.dict #[] }) scope.names).get? b=some o:=fun b o e=>
  pushCells_keeps _ _ _ _ (Heap.get?_push_of_some _ (by rw [<- hL];exact Heap.get?_push_of_some _ e))
 have hacc:(pushCells (hl.push { cls:=.type "dict",data:=.dict #[] }) scope.names).get? s2.heap.objs.size=some { cls:=.type "list",data:=.seq #[] }:=
  pushCells_keeps _ _ _ _ (Heap.get?_push_of_some _ (by rw [<- hL];exact Heap.get?_push_size _ rfl))
 have hns1:(pushCells (hl.push { cls:=.type "dict",data:=.dict #[] }) scope.names).Ns hl.objs.size (fun _=>none):=(Heap.Ns.new hl (.type "dict")).keeps (pushCells_keeps _ _)
 have hcs:∀ x c,(celC X scope hl.objs.size).lookup x=some c->(compCl X.env scope.names []).lookup x=some c \/ (pushCells (hl.push { cls:=.type "dict",data:=.dict #[] }) scope.names).IsCell c none:=fun x c e=>
  cf_cell scope.names (hl.push { cls:=.type "dict",data:=.dict #[] }) _ x c (by rw [Heap.size_push];exact e)
 generalize hp:pushCells (hl.push { cls:=.type "dict",data:=.dict #[] }) scope.names=hp1 at old hacc hns1 hcs ⊢
 have hlt:s2.heap.objs.size < hl.objs.size:=by rw [szl];exact Nat.lt_succ_self _
 let X':Cx:=compCxC X scope N' hl.objs.size s2 H2 fp fun _ _=>False
 obtain ⟨W,⟨m0,w0⟩,turn⟩:=q s2.heap.objs.size (I2.hok.fresh (Nat.le_refl _))
 have J0:Inv X' [] (capS cap σ) (upd H2 s2.heap.objs.size (.lst [])) { s2 with heap:=hp1,toks:=s2.toks }:=I2.compStartC S (Nat.le_refl _) hCle hlt f2 ho old hacc hns1 hcs
 have stat:∀ {H':Hp},(∀ b∈fp,H' b=none)->∀ b∈fp,FpOk X' [] H' b:=fun hn b hb=>by
  obtain ⟨_,g1,g2,g3,g4,g5⟩:=f2 b hb
  refine ⟨hn b hb,Nat.ne_of_lt (Nat.lt_of_lt_of_le (ho b hb) hCle),J0.ok.exfs b hb,.inl hb,fun x c e=>(I2.celLook S e).elim (fun z=>g4 x c z) fun z=>Nat.ne_of_gt (Nat.lt_of_lt_of_le (ho b hb) (Nat.le_trans hCle (Nat.le_of_succ_le z))),fun p hp=>absurd (show p∈([]:List (Addr × Obj)) from hp) (by simp)⟩
 have fr0:∀ b∈fp,upd H2 s2.heap.objs.size (.lst []) b=none:=fun b hb=>by rw [upd_ne (Nat.ne_of_lt (ho b hb))];exact (f2 b hb).1
 have loop:codeAny (model X.prog X.w) X.A (.compLoop (.ListComp elt [⟨tg,iter,ifs,0⟩] scope pos) 0 (.ref it) (.ref s2.heap.objs.size) X'.env)
   (CompEnd X pins σ Q (.ref s2.heap.objs.size) hl.objs.size) { s2 with heap:=hp1,toks:=s2.toks }:=by
  refine comp_loop rfl (fun n s'=>∃ i σ' H',Inv X' [] σ' H' s' /\ tn i s'.heap /\ (∀ b∈fp,H' b=none) /\ W i n σ' H') ?_ m0 ⟨0,_,_,J0,T.keep _ _ _ st2 fun b _ o e=>old b o e,fr0,w0⟩
  rintro n s3 ⟨i,σ3,H3,I3,st3,fr3,w3⟩
  have no:∀ (e:Value) (s':Shared),X'.xe e s'->notedBy (model X.prog X.w) X.A X'.env (fun e s'=>CompEnd X pins σ Q (.ref s2.heap.objs.size) hl.objs.size (.error e) s') e s':=fun _ _ z=>z.elim
  rcases turn i n σ3 H3 w3 with ⟨stop,qn⟩ | ⟨go,N,hN,step⟩
  ·refine wpAny_mono (T.done X' rfl rfl rfl hc i [] s3 σ3 H3 X'.xe I3 (stat fr3) st3 stop) (fun r s4 ⟨hr,I4⟩=>?_) no
   subst hr
   obtain ⟨mC,hmC,_⟩:=I4.loc
   exact ⟨_,H3,mC,rfl,I2.compBackC f2 I4,I2.fpOk hCle I4.free,hmC,qn⟩
  ·refine wpAny_mono (T.item X' rfl rfl rfl hc i [] s3 σ3 H3 X'.xe I3 (stat fr3) st3 go) (fun r s4 ⟨u,hr,h4⟩=>?_) no
   subst hr
   refine wpAny_mono h4 (fun _ s5 ⟨x,H5,I5,r5,y5,st5,fr5⟩=>?_) no
   have I5':=I5.pinned (stat fr5) (T.obj _ _ st5)
   refine wpAny_mono (hg _ _ _ _ _ s5 σ3 H5 x u _ I5' r5 (step x H5 y5)) (fun _ s6 ⟨σ6,H6,I6,q6⟩=>?_) no
   refine wpAny_mono (ht _ _ _ _ _ s6 σ6 H6 _ I6 q6) (fun ok s7 ⟨H7,I7,q7⟩=>?_) no
   have again:∀ {σ7:St} {H7:Hp} {s7:Shared},Inv X' ([]++pinsAt fp s5.heap) σ7 H7 s7->N σ7 H7->∃ m,m < n /\ ∃ i σ' H',Inv X' [] σ' H' s7 /\ tn i s7.heap /\ (∀ b∈fp,H' b=none) /\ W i m σ' H':=fun {σ7 H7 s7} I7 n7=>by
    obtain ⟨m',hm,w7⟩:=hN σ7 H7 n7
    refine ⟨m',hm,i+1,σ7,H7,I7.unpinned,T.keep _ _ _ st5 fun b hb o e=>(I7.pin (b,o) (List.mem_append_right _ (List.mem_append_right _ (mem_pinsAt hb e)))).1,fun b hb=>?_,w7⟩
    obtain ⟨o,e,d⟩:=T.obj _ _ st5 b hb
    exact (I7.pin (b,o) (List.mem_append_right _ (List.mem_append_right _ (mem_pinsAt hb e)))).2.1
   cases ok with
   | false=>exact again I7 q7
   | true=>
    refine wpAny_mono (he _ _ _ _ _ s7 σ6 H7 _ I7 q7) (fun y s8 ⟨z,H8,I8,r8,xs,e8,l8,q8⟩=>?_) no
    refine wpAny_mono (mt_append (X:=X') _ s8 σ6 H8 (.ref s2.heap.objs.size) [z] (.ref s2.heap.objs.size) [y] (fun _ H9=>N σ6 H9) I8 rfl (.cons r8 .nil) ⟨_,xs,z,rfl,rfl,e8,l8,q8⟩) (fun _ s9 ⟨_,H9,I9,_,q9⟩=>?_) no
    exact again I9 q9
 exact codeAny_compStart_list loop (T.self _ 0 _ _ _ (T.keep _ _ _ st2 fun b _ o e=>old b o e) loop)
theorem pe_compCl{elt tg iter:Expr}{ifs:List Expr}{scope:Scope}{pos:Pos}{N':List Str}{cap:List (Option Nat)}{wi:TI}{g:TG}{tst:TT}{te:TE}(hc:X.calm=true)(S:CScC X scope N' cap)(hi:PI X tg iter wi)
  (hg:∀ C s2 H2 fp,PG (compCxC X scope N' C s2 H2 fp fun _ _=>False) tg g) (ht:∀ C s2 H2 fp,PIfs (compCxC X scope N' C s2 H2 fp fun _ _=>False) ifs tst)
  (he:∀ C s2 H2 fp,PE (compCxC X scope N' C s2 H2 fp fun _ _=>False) elt te) (hs:∀ x,foldedSetIterable iter X.env x=pure x:=by intro _;rfl):
  PE X (.ListComp elt [⟨tg,iter,ifs,0⟩] scope pos) (tComp wi cap g tst te):=by
 intro pins s σ H Q I h
 rw [eval_ListComp]
 refine wpAny_comprehension_free (use:=none) rfl hs (closure_eq (I.cellOfC S)) S.kind S.names (thn (comp_coreC (Q:=Q) hc S hi hg ht he I h) fun xv s1 h1=>thn h1 fun it s2 h2=>thn h2 fun acc s3 h3=>thn h3 fun cenv s4 h4=>codeAny_mono h4 fun r s5 h5=>?_)
 cases r with
 | error e=>exact False.elim h5
 | ok fl=>
  obtain ⟨p,H',m,rfl,I',F',hn,q⟩:=h5
  refine ⟨m,hn,fun h' sb=>⟨.ref p,H',?_,rfl,q⟩⟩
  exact I'.turned (t':=s5.toks) (fun b o hb e=>sb.extBut b o hb e) F'.1 F'.2.1 F'.2.2.2.1 F'.2.2.2.2.1 F'.2.2.2.2.2
end
end L2
namespace L2
open PySem
structure CScCD(sc:Scope)(N:List Str)(scope:Scope)(N':List Str)(cap:List (Option Nat)):Prop where
 kind:scope.kind=.function
 cells:∀ y∈scope.names,y.2=.cell->scope.names.lookup y.1=some .cell
 frees:∀ y∈scope.names,y.2=.free->scope.names.lookup y.1=some .free
 names:∀ y∈scope.names,y.2=.local->scope.names.lookup y.1=some .local
 free:∀ y∈scope.names,y.2=.free->sc.names.lookup y.1=some .cell \/ sc.names.lookup y.1=some .free
 len:cap.length=N'.length
 cap:∀ i∈List.range cap.length,∀ j∈List.range N.length,cap[i]?=some (some j)->N'[i]?=N[j]? /\ (N'[i]?).isSome=true /\ (N'[i]?).bind (fun n=>scope.names.lookup n)=some .free
theorem cscC_of{X:Cx}{sc:Scope}{N:List Str}{scope:Scope}{N':List Str}{cap:List (Option Nat)}(hs:X.env.scope=sc)(hN:X.N=N)(D:CScCD sc N scope N' cap)(hc:(cap.all fun o=>o.all fun j=>decide (j < N.length))=true:=by rfl):CScC X scope N' cap:=by
 subst hs hN
 refine ⟨D.kind,D.cells,D.frees,D.names,D.free,D.len,fun i hi j hj=>?_⟩
 have e:cap[i]?=some (some j):=by
  cases q:cap[i]? with
  | none=>rw [q] at hj;cases hj
  | some o=>
   rw [q] at hj
   have:o=some j:=hj
   rw [this]
 have hm:(some j:Option Nat)∈cap:=List.mem_of_getElem? e
 have hl:=List.all_eq_true.mp hc _ hm
 have hl':j < X.N.length:=by simpa using hl
 exact D.cap i hi j (List.mem_range.mpr hl') e
def relS(scope scF:Scope):Scope:={ scope with names:=scope.names.map fun (n,k)=>if (k==NameKind.free&&scF.kind==.function&&scF.names.lookup n==some .cell) then (n,NameKind.cell) else (n,k) }
theorem csc_in{X:Cx}{scope scF scope2:Scope}{N' N2:List Str}{cap2:List (Option Nat)}{C:Addr}{s2:Shared}{H2:Hp}{fp:List Addr}{E:Value->Shared->Prop}(hs:X.env.scope=scF)(D:CScD (relS scope scF) N' scope2 N2 cap2)
  (hc:(cap2.all fun o=>o.all fun j=>decide (j < N'.length))=true:=by rfl):CSc (compCxC X scope N' C s2 H2 fp E) scope2 N2 cap2:=by
 subst hs
 exact csc_of (X:=compCxC X scope N' C s2 H2 fp E) (sc:=relS scope X.env.scope) (N:=N') rfl rfl D hc
end L2
namespace Yd
structure From(T:List Int)(s:St):Prop where
 l:∀ x∈s.left,x∈T
 t:∀ (j:Nat),∀ x∈s.tr.getD j [],x∈T
theorem getD_set'{s:List (List Int)}{t j:Nat}{c:List Int}:(s.set t c).getD j []=if j=t /\ t < s.length then c else s.getD j []:=by
 rw [List.getD_eq_getElem?_getD,List.getElem?_set,List.getD_eq_getElem?_getD]
 by_cases h:t=j
 ·subst h
  by_cases hl:t < s.length
  ·rw [if_pos rfl,if_pos hl,if_pos ⟨rfl,hl⟩];rfl
  ·rw [if_pos rfl,if_neg hl,if_neg (fun z=>hl z.2),List.getElem?_eq_none_iff.mpr (by omega)]
 ·rw [if_neg h,if_neg (fun z=>h z.1.symm)]
theorem From.step{T:List Int}{bl:Bool}{s s':St}{m:Mv}(F:From T s)(h:Yd.step T bl s m=some s'):From T s':=by
 unfold Yd.step at h
 split at h
 ·split at h
  ·rename_i x e
   cases h
   refine ⟨F.l,fun j y hy=>?_⟩
   rw [getD_set'] at hy
   split at hy
   ·rcases List.mem_append.mp hy with z | z
    ·exact F.t _ y z
    ·rw [List.mem_singleton.mp z];exact List.mem_of_getElem? e
   ·exact F.t _ y hy
  ·cases h
 ·split at h
  ·split at h
   ·rename_i x e
    cases h
    refine ⟨fun y hy=>?_,fun j y hy=>?_⟩
    ·rcases List.mem_append.mp hy with z | z
     ·exact F.l y z
     ·rw [List.mem_singleton.mp z];exact F.t _ x (List.mem_of_getLast? e)
    ·rw [getD_set'] at hy
     split at hy
     ·exact F.t _ y (by rw [List.dropLast_eq_take] at hy;exact List.mem_of_mem_take hy)
     ·exact F.t _ y hy
   ·cases h
  ·split at h
   ·rename_i x r e
    cases h
    refine ⟨fun y hy=>?_,fun j y hy=>?_⟩
    ·rcases List.mem_append.mp hy with z | z
     ·exact F.l y z
     ·rw [List.mem_singleton.mp z];exact F.t m.2 x (by rw [e];exact List.mem_cons_self)
    ·rw [getD_set'] at hy
     split at hy
     ·exact F.t m.2 y (by rw [e];exact List.mem_cons_of_mem _ hy)
     ·exact F.t _ y hy
   ·cases h
theorem From.steps{T:List Int}{bl:Bool}:∀ {ms:List Mv} {s s':St},From T s->Yd.steps T bl s ms=some s'->From T s'
 | [],s,s',F,h=>by cases h;exact F
 | m :: r,s,s',F,h=>by
  unfold Yd.steps at h
  obtain ⟨s1,e1,e2⟩:=Option.bind_eq_some_iff.mp h
  exact (F.step e1).steps e2
theorem from_init(T:List Int)(n:Nat):From T (init n):=by
 refine ⟨fun x h=>(by cases h),fun j x h=>?_⟩
 unfold init at h
 rw [List.getD_eq_getElem?_getD,List.getElem?_replicate] at h
 split at h<;>cases h
def Mono(f:Int->Int)(A:List Int):Prop:=∀ x∈A,∀ y∈A,x < y->f x < f y
theorem Brings.map{T:List Int}{bl:Bool}{n:Nat}{ms:List Mv}(B:Brings T bl n ms){f:Int->Int}(hf:Mono f T):Brings (T.map f) bl n ms:=by
 obtain ⟨st,h,hl,hp⟩:=B.ex
 have h2:=steps_map (T:=T) (bl:=bl) f (init n) ms
 rw [h,init_map] at h2
 have F:=(from_init T n).steps h
 refine ⟨B.valid,_,h2,?_,?_⟩
 ·show (st.left.map f).length=_
  rw [List.length_map,List.length_map];exact hl
 ·show (st.left.map f).Pairwise _
  rw [List.pairwise_map]
  exact hp.imp_of_mem fun ha hb hlt=>hf _ (F.l _ ha) _ (F.l _ hb) hlt
theorem step_more{A B:List Int}{bl:Bool}{s s':St}{m:Mv}(h:Yd.step A bl s m=some s'):Yd.step (A++B) bl s m=some s':=by
 unfold Yd.step at h ⊢
 split at h
 ·rename_i h1
  rw [if_pos h1]
  split at h
  ·rename_i x e
   rw [List.getElem?_append_left (List.getElem?_eq_some_iff.mp e).1,e]
   exact h
  ·cases h
 ·rename_i h1
  rw [if_neg h1]
  exact h
theorem steps_more{A B:List Int}{bl:Bool}:∀ {ms:List Mv} {s s':St},Yd.steps A bl s ms=some s'->Yd.steps (A++B) bl s ms=some s'
 | [],s,s',h=>h
 | m :: r,s,s',h=>by
  unfold Yd.steps at h ⊢
  obtain ⟨s1,e1,e2⟩:=Option.bind_eq_some_iff.mp h
  rw [step_more e1]
  exact steps_more e2
theorem step_late{A B L:List Int}{bl:Bool}{s s':St}{m:Mv}(h:Yd.step B bl s m=some s'):Yd.step (A++B) bl ⟨s.tr,L++s.left,A.length+s.came⟩ m=some ⟨s'.tr,L++s'.left,A.length+s'.came⟩:=by
 unfold Yd.step at h ⊢
 split at h
 ·rename_i h1
  rw [if_pos h1]
  split at h
  ·rename_i x e
   cases h
   show (match (A++B)[A.length+s.came]? with | some x=>_ | none=>none)=_
   rw [List.getElem?_append_right (Nat.le_add_right _ _),Nat.add_sub_cancel_left,e]
   rfl
  ·cases h
 ·rename_i h1
  rw [if_neg h1]
  split at h
  ·rename_i h2
   rw [if_pos h2]
   split at h
   ·rename_i x e
    cases h
    show (match (s.tr.getD m.2 []).getLast? with | some x=>_ | none=>none)=_
    rw [e]
    show some (St.mk _ (L++s.left++[x]) _)=_
    rw [List.append_assoc]
   ·cases h
  ·rename_i h2
   rw [if_neg h2]
   split at h
   ·rename_i x r e
    cases h
    show (match s.tr.getD m.2 [] with | x :: r=>_ | []=>none)=_
    rw [e]
    show some (St.mk _ (L++s.left++[x]) _)=_
    rw [List.append_assoc]
   ·cases h
theorem steps_late{A B L:List Int}{bl:Bool}:∀ {ms:List Mv} {s s':St},Yd.steps B bl s ms=some s'->Yd.steps (A++B) bl ⟨s.tr,L++s.left,A.length+s.came⟩ ms=some ⟨s'.tr,L++s'.left,A.length+s'.came⟩
 | [],s,s',h=>by cases h;rfl
 | m :: r,s,s',h=>by
  unfold Yd.steps at h ⊢
  obtain ⟨s1,e1,e2⟩:=Option.bind_eq_some_iff.mp h
  rw [step_late e1]
  exact steps_late e2
theorem Brings.append{A B:List Int}{bl:Bool}{n:Nat}{ms ns:List Mv}(hA:Brings A bl n ms)(hB:Brings B bl n ns)(hlt:∀ x∈A,∀ y∈B,x < y):Brings (A++B) bl n (ms++ns):=by
 obtain ⟨st,h,hl,hp⟩:=hA.ex
 obtain ⟨st2,h2,hl2,hp2⟩:=hB.ex
 have D:=done_of h hA.valid hl
 have hlen:st.tr.length=n:=by rw [steps_len h];exact List.length_replicate
 have htr:st.tr=List.replicate n []:=by
  refine List.ext_getElem? fun j=>?_
  rw [List.getElem?_replicate]
  split
  ·rename_i hj
   have e:st.tr[j]?=some (st.tr[j]'(by omega)):=List.getElem?_eq_getElem (by omega)
   rw [e,D.empty j _ e]
  ·exact List.getElem?_eq_none_iff.mpr (by omega)
 have e1:st=⟨(init n).tr,st.left++(init n).left,A.length+(init n).came⟩:=by
  show st=⟨List.replicate n [],st.left++[],A.length+0⟩
  rw [List.append_nil,Nat.add_zero,<- htr,<- D.came]
 have h3:=steps_late (A:=A) (L:=st.left) h2
 rw [<- e1] at h3
 refine ⟨fun m hm=>?_,_,by rw [steps_append,steps_more h];exact h3,?_,?_⟩
 ·rcases List.mem_append.mp hm with z | z
  ·exact hA.valid m z
  ·exact hB.valid m z
 ·show (st.left++st2.left).length=_
  rw [List.length_append,List.length_append,hl,hl2]
 ·show (st.left++st2.left).Pairwise _
  rw [List.pairwise_append]
  exact ⟨hp,hp2,fun x hx y hy=>hlt x (((from_init A n).steps h).l x hx) y (((from_init B n).steps h2).l y hy)⟩
structure Shows(T A:List Int)(d:Nat):Prop where
 len:d+A.length <= T.length
 lt:∀ p q,p < A.length->q < A.length->A.getD p 0 < A.getD q 0->T.getD (d+p) 0 < T.getD (d+q) 0
theorem Shows.odds{T A:List Int}{d p q r:Nat}(S:Shows T A d)(h:AtOdds A p q r):AtOdds T (d+p) (d+q) (d+r):=by
 obtain ⟨h1,h2,h3,h4,h5⟩:=h
 have:=S.len
 have e1:min (d+p) (d+q)=d+min p q:=by omega
 have e2:max (d+p) (d+q)=d+max p q:=by omega
 rw [AtOdds,e1,e2]
 exact ⟨by omega,by omega,by omega,S.lt _ _ h3 (by omega) h4,S.lt _ _ (by omega) (by omega) h5⟩
theorem Shows.no_odd{T A:List Int}{d:Nat}(S:Shows T A d){ring shw:List Nat}(h:My.OddOk A ring shw){ms:List Mv}(B:Brings T true 2 ms):False:=
 B.no_odd (ps:=fun k=>d+ring.getD k 0) (sh:=fun k=>d+shw.getD k 0) h.odd (by have:=h.three;omega) fun k hk=>S.odds (h.at_ k hk)
theorem Shows.no_three{T A:List Int}{d:Nat}(S:Shows T A d){i j k:Int}(h:My.threeB A i j k=true){ms:List Mv}(B:Brings T true 1 ms):False:=by
 unfold My.threeB at h
 rw [Bool.and_eq_true,Bool.and_eq_true,decide_eq_true_iff,decide_eq_true_iff,My.rises_split] at h
 obtain ⟨⟨h1,h2⟩,h3,h4⟩:=h
 have p1:=List.pairwise_cons.mp h1
 have p2:=List.pairwise_cons.mp p1.2
 have p3:=List.pairwise_cons.mp p2.2
 have i0:=p1.1 i (by simp)
 have ij:=p2.1 j (by simp)
 have jk:=p3.1 k (by simp)
 have kl:=h2 k (by simp)
 have:=S.len
 have g:∀ p,p < A.length->T[d+p]?=some (T.getD (d+p) 0):=fun p hp=>by rw [List.getD_eq_getElem?_getD,List.getElem?_eq_getElem (by omega)];rfl
 exact B.no_three (i:=d+i.toNat) (j:=d+j.toNat) (k:=d+k.toNat) (by omega) (by omega) (g _ (by omega)) (g _ (by omega)) (g _ (by omega)) (S.lt _ _ (by omega) (by omega) h3) (S.lt _ _ (by omega) (by omega) h4)
end Yd
namespace My
open L2
def cnt(T:List Int)(x:Int):Nat:=(T.filter fun y=>decide (y < x)).length
theorem cnt_lt{T:List Int}{x y:Int}(hx:x∈T)(h:x < y):cnt T x < cnt T y:=by
 unfold cnt
 induction T with
 | nil=>cases hx
 | cons z r ih=>
  have mono:(r.filter fun u=>decide (u < x)).length <= (r.filter fun u=>decide (u < y)).length:=by
   clear ih hx
   induction r with
   | nil=>exact Nat.le_refl _
   | cons v r ih=>
    rw [List.filter_cons,List.filter_cons]
    by_cases h1:v < x
    ·rw [if_pos (by simpa using h1),if_pos (by simpa using (by omega:v < y))]
     simpa using ih
    ·rw [if_neg (by simpa using h1)]
     split
     ·simp only [List.length_cons];omega
     ·exact ih
  rw [List.filter_cons,List.filter_cons]
  rcases List.mem_cons.mp hx with rfl | hx
  ·rw [if_neg (by simp),if_pos (by simpa using h)]
   simp only [List.length_cons];omega
  ·have:=ih hx
   by_cases h1:z < x
   ·rw [if_pos (by simpa using h1),if_pos (by simpa using (by omega:z < y))]
    simp only [List.length_cons];omega
   ·rw [if_neg (by simpa using h1)]
    split
    ·simp only [List.length_cons];omega
    ·exact this
theorem cnt_len{T:List Int}{x:Int}(hx:x∈T):cnt T x < T.length:=by
 unfold cnt
 have h:(T.filter fun y=>decide (y < x)).length <= T.length:=List.length_filter_le _ _
 rcases Nat.lt_or_ge (T.filter fun y=>decide (y < x)).length T.length with z | z
 ·exact z
 ·have e:=List.length_filter_eq_length_iff.mp (Nat.le_antisymm h z) x hx
  simp at e
def dueL(A B:List Int):List Int:=(A.map fun x=>(cnt A x:Int)+0)++B.map fun x=>(cnt B x:Int)+(A.length:Int)
theorem mono_cnt(A:List Int)(d:Int):Yd.Mono (fun x=>(cnt A x:Int)+d) A:=fun x hx y _ h=>by have:=cnt_lt hx h;show (cnt A x:Int)+d < (cnt A y:Int)+d;omega
theorem due_lt{A B:List Int}:∀ x∈(A.map fun x=>(cnt A x:Int)+0),∀ y∈(B.map fun x=>(cnt B x:Int)+(A.length:Int)),x < y:=fun x hx y hy=>by
 obtain ⟨u,hu,rfl⟩:=List.mem_map.mp hx
 obtain ⟨v,hv,rfl⟩:=List.mem_map.mp hy
 have:=cnt_len hu
 omega
theorem mono_nodup{A:List Int}{f:Int->Int}(h:Yd.Mono f A)(n:A.Nodup):(A.map f).Nodup:=by
 rw [List.nodup_iff_pairwise_ne,List.pairwise_map]
 refine (List.nodup_iff_pairwise_ne.mp n).imp_of_mem fun ha hb hne e=>?_
 rcases Int.lt_trichotomy _ _ with z | z | z
 ·exact absurd (h _ ha _ hb z) (by omega)
 ·exact hne z
 ·exact absurd (h _ hb _ ha z) (by omega)
theorem due_nodup{A B:List Int}(a:A.Nodup)(b:B.Nodup):(dueL A B).Nodup:=by
 unfold dueL
 rw [List.nodup_append]
 exact ⟨mono_nodup (mono_cnt A 0) a,mono_nodup (mono_cnt B A.length) b,fun x hx y hy=>Int.ne_of_lt (due_lt x hx y hy)⟩
theorem due_brings{A B:List Int}{n:Nat}(a:∃ ms,Yd.Brings A true n ms)(b:∃ ms,Yd.Brings B true n ms):∃ ms,Yd.Brings (dueL A B) true n ms:=by
 obtain ⟨ms,a⟩:=a
 obtain ⟨ns,b⟩:=b
 exact ⟨_,(a.map (mono_cnt A 0)).append (b.map (mono_cnt B A.length)) due_lt⟩
theorem getD_at{A:List Int}{p:Nat}(h:p < A.length):A.getD p 0∈A:=by rw [List.getD_eq_getElem?_getD,List.getElem?_eq_getElem h];exact List.getElem_mem h
theorem getD_mapf{A:List Int}{f:Int->Int}{p:Nat}(h:p < A.length):(A.map f).getD p 0=f (A.getD p 0):=by
 rw [List.getD_eq_getElem?_getD,List.getElem?_map,List.getElem?_eq_getElem h,List.getD_eq_getElem?_getD,List.getElem?_eq_getElem h]
 rfl
theorem shows_one(A B:List Int):Yd.Shows (dueL A B) A 0:=by
 refine ⟨by unfold dueL;rw [List.length_append,List.length_map];omega,fun p q hp hq h=>?_⟩
 have g:∀ p,p < A.length->(dueL A B).getD (0+p) 0=(cnt A (A.getD p 0):Int)+0:=fun p hp=>by
  unfold dueL
  rw [Nat.zero_add,List.getD_eq_getElem?_getD,List.getElem?_append_left (by rw [List.length_map];exact hp),<- List.getD_eq_getElem?_getD,getD_mapf hp]
 rw [g p hp,g q hq]
 exact mono_cnt A 0 _ (getD_at hp) _ (getD_at hq) h
theorem shows_two(A B:List Int):Yd.Shows (dueL A B) B A.length:=by
 refine ⟨by unfold dueL;rw [List.length_append,List.length_map,List.length_map];exact Nat.le_refl _,fun p q hp hq h=>?_⟩
 have g:∀ p,p < B.length->(dueL A B).getD (A.length+p) 0=(cnt B (B.getD p 0):Int)+(A.length:Int):=fun p hp=>by
  unfold dueL
  rw [List.getD_eq_getElem?_getD,List.getElem?_append_right (by rw [List.length_map];omega),List.length_map,Nat.add_sub_cancel_left,<- List.getD_eq_getElem?_getD,getD_mapf hp]
 rw [g p hp,g q hq]
 exact mono_cnt B _ _ (getD_at hp) _ (getD_at hq) h
theorem rank_cnt{A:List Int}{ord:List Nat}(h:Rank A ord)(n:A.Nodup){p:Nat}(hp:p < A.length):cnt A (A.getD p 0)=ord.idxOf p:=by
 have hO:=h.ord
 have e:=hO.at_ hp
 have hl:ord.length=A.length:=by rw [h.perm.length_eq,List.length_range]
 have hi:=(List.getElem?_eq_some_iff.mp e).1
 have hA:(ord.map fun q=>A.getD q 0).Perm A:=by
  have h1:=h.perm.map fun q=>A.getD q 0
  have h2:(List.range A.length).map (fun q=>A.getD q 0)=A:=by
   refine List.ext_getElem? fun i=>?_
   rw [List.getElem?_map]
   by_cases hi:i < A.length
   ·rw [List.getElem?_range hi,List.getElem?_eq_getElem hi]
    show some (A.getD i 0)=_
    rw [List.getD_eq_getElem?_getD,List.getElem?_eq_getElem hi]
    rfl
   ·rw [List.getElem?_eq_none_iff.mpr (by rw [List.length_range];omega),List.getElem?_eq_none_iff.mpr (by omega)]
    rfl
  rw [h2] at h1
  exact h1
 unfold cnt
 rw [<- (hA.filter _).length_eq,<- List.take_append_drop (ord.idxOf p) ord,List.map_append,List.filter_append,List.length_append]
 have f1:((List.take (ord.idxOf p) ord).map fun q=>A.getD q 0).filter (fun y=>decide (y < A.getD p 0))=(List.take (ord.idxOf p) ord).map fun q=>A.getD q 0:=by
  rw [List.filter_eq_self]
  intro y hy
  obtain ⟨q,hq,rfl⟩:=List.mem_map.mp hy
  obtain ⟨j,hj,ej⟩:=List.getElem_of_mem hq
  rw [List.length_take] at hj
  rw [List.getElem_take] at ej
  exact decide_eq_true (h.lt n j (ord.idxOf p) q p (by omega) (by rw [List.getElem?_eq_getElem (by omega),ej]) e)
 have f2:((List.drop (ord.idxOf p) ord).map fun q=>A.getD q 0).filter (fun y=>decide (y < A.getD p 0))=[]:=by
  rw [List.filter_eq_nil_iff]
  intro y hy
  obtain ⟨q,hq,rfl⟩:=List.mem_map.mp hy
  obtain ⟨j,hj,ej⟩:=List.getElem_of_mem hq
  rw [List.length_drop] at hj
  rw [List.getElem_drop] at ej
  have eq:ord[ord.idxOf p+j]?=some q:=by rw [List.getElem?_eq_getElem (by omega),ej]
  by_cases hj0:j=0
  ·subst hj0
   rw [Nat.add_zero,e] at eq
   cases eq
   simp
  ·have:=h.lt n (ord.idxOf p) (ord.idxOf p+j) p q (by omega) e eq
   exact fun z=>by have:=of_decide_eq_true z;omega
 rw [List.take_append_drop] at*
 rw [f1,f2,List.length_map,List.length_take]
 simp only [List.length_nil]
 omega
end My
namespace My
open PySem L2
def top(i:Nat):Stmt:=PySem.Challenge.pw_sidings_k07_behind.main.body.getD i (.Pass ⟨0,0,0,0⟩)
abbrev s__wall:Stmt:=top 0
abbrev s_is_number:Stmt:=top 5
abbrev s_checked_train:Stmt:=top 6
abbrev s_has_two_alike:Stmt:=top 7
abbrev s_behind:Stmt:=top 9
abbrev s_ranks:Stmt:=top 10
abbrev s_places_in_order:Stmt:=top 11
abbrev s_Shunted_init:Stmt:=inClass (top 14) 0
abbrev s_Shunted_shows:Stmt:=inClass (top 14) 1
abbrev s_Three_init:Stmt:=inClass (top 15) 0
abbrev s_Three_shows:Stmt:=inClass (top 15) 1
abbrev s_Odd_init:Stmt:=inClass (top 16) 0
abbrev s_Odd_shows:Stmt:=inClass (top 16) 1
abbrev s_Forest_init:Stmt:=inClass (top 18) 0
abbrev s_Forest_grow:Stmt:=inClass (top 18) 1
abbrev s_Forest_grow_from:Stmt:=inClass (top 18) 2
abbrev s_Forest_path:Stmt:=inClass (top 18) 3
abbrev s_Groups_init:Stmt:=inClass (top 19) 0
abbrev s_Groups_let_come:Stmt:=inClass (top 19) 1
abbrev s_Groups_let_leave:Stmt:=inClass (top 19) 2
abbrev s_Groups_greater:Stmt:=inClass (top 19) 3
abbrev s_forest_at_odds:Stmt:=top 20
abbrev s_Shunting_init:Stmt:=inClass (top 22) 0
abbrev s_Shunting_let_all_come:Stmt:=inClass (top 22) 1
abbrev s_Shunting_let_those_leave_that_can:Stmt:=inClass (top 22) 2
abbrev s_Shunting_is_done:Stmt:=inClass (top 22) 3
abbrev s_Shunting_covered:Stmt:=inClass (top 22) 4
abbrev s_Shunting_cover:Stmt:=inClass (top 22) 5
abbrev s_shunted_blind:Stmt:=top 23
abbrev s_last_lesser:Stmt:=top 24
abbrev s_one_blind:Stmt:=top 26
abbrev s_through_one_blind:Stmt:=top 27
abbrev s_two_blind:Stmt:=top 28
abbrev s__law_inserted:Stmt:=top 30
abbrev s__law_made:Stmt:=top 31
abbrev s__law_spoiled:Stmt:=top 32
abbrev s__law_numbered:Stmt:=top 33
abbrev s__law_goes:Stmt:=top 34
abbrev s__law_goes_by_two:Stmt:=top 35
abbrev s_law:Stmt:=top 36
abbrev lp_places_in_order:Pos:=⟨36,42,36,69⟩
abbrev lq_places_in_order:Str:=(PyProof.Rows.envOfC "places_in_order" (defScope s_places_in_order) 0 0 .none).qual ++ "<lambda>"
def lams:List (Str × Pos × Str):=[("places_in_order",lp_places_in_order,lq_places_in_order)]
structure Adr where
 cYardError:Addr
 cBadTrain:Addr
 cAnswer:Addr
 cShunted:Addr
 cThree:Addr
 cOdd:Addr
 cForest:Addr
 cGroups:Addr
 cShunting:Addr
 lc_places_in_order:Addr
 lt_places_in_order:Addr
structure Tx(K:PySem.W.Frag)(mg:Str->Option Value)(Z:Adr):Prop where
 n_any:mg "any"=none
 n_bool:mg "bool"=none
 n_enumerate:mg "enumerate"=none
 n_int:mg "int"=none
 n_isinstance:mg "isinstance"=none
 n_len:mg "len"=none
 n_list:mg "list"=none
 n_max:mg "max"=none
 n_min:mg "min"=none
 n_range:mg "range"=none
 n_reversed:mg "reversed"=none
 n_sorted:mg "sorted"=none
 n_sum:mg "sum"=none
 n_zip:mg "zip"=none
 is_number:FnT K mg "is_number" s_is_number ["value"]
 checked_train:FnT K mg "checked_train" s_checked_train ["train"]
 has_two_alike:FnT K mg "has_two_alike" s_has_two_alike ["wagons"]
 behind:FnT K mg "behind" s_behind ["one", "other"]
 ranks:FnT K mg "ranks" s_ranks ["wagons"]
 lm_places_in_order:LmT K mg "places_in_order" s_places_in_order ["wagons"] Z.lc_places_in_order Z.lt_places_in_order
 lo_places_in_order:tabIn K "places_in_order"=some (Z.lc_places_in_order,Z.lt_places_in_order)
 forest_at_odds:FnT K mg "forest_at_odds" s_forest_at_odds ["wagons", "leaving"]
 shunted_blind:FnT K mg "shunted_blind" s_shunted_blind ["leaving", "tracks", "many"]
 last_lesser:FnT K mg "last_lesser" s_last_lesser ["leaving"]
 one_blind:FnT K mg "one_blind" s_one_blind ["train"]
 through_one_blind:FnT K mg "through_one_blind" s_through_one_blind ["wagons"]
 two_blind:FnT K mg "two_blind" s_two_blind ["train"]
 _law_inserted:FnT K mg "_law_inserted" s__law_inserted ["_law_script"]
 _law_made:FnT K mg "_law_made" s__law_made ["_law_script", "_law_blind", "_law_many"]
 _law_spoiled:FnT K mg "_law_spoiled" s__law_spoiled ["_law_train", "_law_script"]
 _law_numbered:FnT K mg "_law_numbered" s__law_numbered ["_law_train", "_law_more"]
 _law_goes:FnT K mg "_law_goes" s__law_goes ["_law_train"]
 _law_goes_by_two:FnT K mg "_law_goes_by_two" s__law_goes_by_two ["_law_train"]
 c_Shunted:mg "Shunted"=some (.ref Z.cShunted)
 k_Shunted:Cls K Z.cShunted
 y_Shunted:InsT K Z.cShunted
 a_Shunted_moves:NoAttr K Z.cShunted "moves"
 c_Three:mg "Three"=some (.ref Z.cThree)
 k_Three:Cls K Z.cThree
 y_Three:InsT K Z.cThree
 a_Three_first:NoAttr K Z.cThree "first"
 a_Three_second:NoAttr K Z.cThree "second"
 a_Three_third:NoAttr K Z.cThree "third"
 c_Odd:mg "Odd"=some (.ref Z.cOdd)
 k_Odd:Cls K Z.cOdd
 y_Odd:InsT K Z.cOdd
 a_Odd_places:NoAttr K Z.cOdd "places"
 a_Odd_shown:NoAttr K Z.cOdd "shown"
 c_Forest:mg "Forest"=some (.ref Z.cForest)
 k_Forest:Cls K Z.cForest
 a_Forest_depths:NoAttr K Z.cForest "depths"
 a_Forest_neighbours:NoAttr K Z.cForest "neighbours"
 a_Forest_parents:NoAttr K Z.cForest "parents"
 c_Groups:mg "Groups"=some (.ref Z.cGroups)
 k_Groups:Cls K Z.cGroups
 a_Groups_neighbours:NoAttr K Z.cGroups "neighbours"
 a_Groups_pairs:NoAttr K Z.cGroups "pairs"
 a_Groups_wagons:NoAttr K Z.cGroups "wagons"
 c_Shunting:mg "Shunting"=some (.ref Z.cShunting)
 k_Shunting:Cls K Z.cShunting
 a_Shunting_gone:NoAttr K Z.cShunting "gone"
 a_Shunting_leaving:NoAttr K Z.cShunting "leaving"
 a_Shunting_moves:NoAttr K Z.cShunting "moves"
 a_Shunting_stacks:NoAttr K Z.cShunting "stacks"
 a_Shunting_tracks:NoAttr K Z.cShunting "tracks"
 i_Shunted:InT K Z.cShunted "Shunted.__init__" s_Shunted_init ["self", "moves"]
 i_Three:InT K Z.cThree "Three.__init__" s_Three_init ["self", "first", "second", "third"]
 i_Odd:InT K Z.cOdd "Odd.__init__" s_Odd_init ["self", "places", "shown"]
 i_Forest:InT K Z.cForest "Forest.__init__" s_Forest_init ["self", "neighbours"]
 m_Forest_grow:MtT K Z.cForest "grow" "Forest.grow" s_Forest_grow ["self"]
 m_Forest_grow_from:MtT K Z.cForest "grow_from" "Forest.grow_from" s_Forest_grow_from ["self", "root"]
 m_Forest_path:MtT K Z.cForest "path" "Forest.path" s_Forest_path ["self", "one", "other"]
 i_Groups:InT K Z.cGroups "Groups.__init__" s_Groups_init ["self", "wagons"]
 m_Groups_let_come:MtT K Z.cGroups "let_come" "Groups.let_come" s_Groups_let_come ["self", "place"]
 m_Groups_let_leave:MtT K Z.cGroups "let_leave" "Groups.let_leave" s_Groups_let_leave ["self", "place"]
 m_Groups_greater:MtT K Z.cGroups "greater" "Groups.greater" s_Groups_greater ["self", "one", "other"]
 i_Shunting:InT K Z.cShunting "Shunting.__init__" s_Shunting_init ["self", "leaving", "tracks", "many"]
 m_Shunting_let_all_come:MtT K Z.cShunting "let_all_come" "Shunting.let_all_come" s_Shunting_let_all_come ["self"]
 m_Shunting_let_those_leave_that_can:MtT K Z.cShunting "let_those_leave_that_can" "Shunting.let_those_leave_that_can" s_Shunting_let_those_leave_that_can ["self"]
 m_Shunting_is_done:MtT K Z.cShunting "is_done" "Shunting.is_done" s_Shunting_is_done ["self"]
 m_Shunting_covered:MtT K Z.cShunting "covered" "Shunting.covered" s_Shunting_covered ["self"]
 m_Shunting_cover:MtT K Z.cShunting "cover" "Shunting.cover" s_Shunting_cover ["self"]
 kit_Three_Shunted:kitOne K (.ref Z.cThree) (.ref Z.cShunted)=some false
 kit_Odd_Shunted:kitOne K (.ref Z.cOdd) (.ref Z.cShunted)=some false
end My
namespace My
open PySem L2
def FF(K:PySem.W.Frag)(f:Addr)(x q:Str)(st:Stmt):Prop:=∃ fd,Fun K x q st f fd /\ keepIn K (.ref f)=true
theorem FF.f{K:PySem.W.Frag}{f:Addr}{x q:Str}{st:Stmt}(h:FF K f x q st):Fun K x q st f h.choose:=h.choose_spec.1
theorem FF.k{K:PySem.W.Frag}{f:Addr}{x q:Str}{st:Stmt}(h:FF K f x q st):keepIn K (.ref f)=true:=h.choose_spec.2
theorem FF.of{K:PySem.W.Frag}{x q:Str}{st:Stmt}{f:Addr}{oc:Value}{od an:Option Addr}{osl:Array (Option Value)}{kV doc pm cdv ct:Value}(l:K.lookup f=some ⟨oc,od,.func (fnOf x q (defArgs st) (defBody st) (defScope st) .none kV doc pm an cdv ct),osl⟩)
  (c:codeIn K cdv q=true) (k:keepIn K (.ref f)=true):FF K f x q st:=⟨_,fun_mk l c k,k⟩
def sp_law(K:PySem.W.Frag):Sp:=fun vs H Q _=>∃ (a:Addr) (ns:List Int),vs=[.ref a] /\ SqL K H a (ns.map V.int) /\ ns.length <= 63 /\ TabsIn K lams H /\ ∀ H',Q (.bl true) H'
abbrev OkL(l:PySem.W.OpenLaw):Prop:=∀ {w:World} {K:PySem.W.Frag} {mg:Str->Option Value} {base:Heap} {Z:Adr} {f:Addr} {fd:FuncData},Tx K mg Z->Fun K "law" "law" s_law f fd->FnOk l.prog w K mg base CX0 11 f fd ["_law_script"] (sp_law K)
theorem all_mk {l:PySem.W.OpenLaw} {w:World} {K:PySem.W.Frag} {h:Heap} {mg:Str->Option Value} {fa:Addr} (ok:OkL l) (X:K.In h) (G:h.Ns mainGlobals mg) (hfa:mg "law"=some (.ref fa))
  {f1:Addr}
  {f2:Addr}
  {f3:Addr}
  {f4:Addr}
  {f5:Addr}
  {f6:Addr} {od6 an6:Option Addr} {sl6:Array (Option Value)} {oc6 kV6 dc6 pm6 cd6 ct6:Value}
  {Lc6 Lt6:Addr}
  {f7:Addr}
  {f8:Addr}
  {f9:Addr}
  {f10:Addr}
  {f11:Addr}
  {f12:Addr}
  {f13:Addr}
  {f14:Addr}
  {f15:Addr}
  {f16:Addr}
  {f17:Addr}
  {f18:Addr}
  {f19:Addr} {od19 an19:Option Addr} {sl19:Array (Option Value)} {oc19 kV19 dc19 pm19 cd19 ct19:Value}
  {CYardError:Addr}
  {CBadTrain:Addr}
  {CAnswer:Addr}
  {CShunted:Addr}
  {CThree:Addr}
  {COdd:Addr}
  {CForest:Addr}
  {CGroups:Addr}
  {CShunting:Addr}
  {fm0:Addr}
  {fm2:Addr}
  {fm4:Addr}
  {fm6:Addr}
  {fm7:Addr}
  {fm8:Addr}
  {fm9:Addr}
  {fm10:Addr}
  {fm11:Addr}
  {fm12:Addr}
  {fm13:Addr}
  {fm14:Addr}
  {fm15:Addr}
  {fm16:Addr}
  {fm17:Addr}
  {fm18:Addr}
  {fm19:Addr}
  (n_any:nsIn K mainGlobals "any"=some none)
  (n_bool:nsIn K mainGlobals "bool"=some none)
  (n_enumerate:nsIn K mainGlobals "enumerate"=some none)
  (n_int:nsIn K mainGlobals "int"=some none)
  (n_isinstance:nsIn K mainGlobals "isinstance"=some none)
  (n_len:nsIn K mainGlobals "len"=some none)
  (n_list:nsIn K mainGlobals "list"=some none)
  (n_max:nsIn K mainGlobals "max"=some none)
  (n_min:nsIn K mainGlobals "min"=some none)
  (n_range:nsIn K mainGlobals "range"=some none)
  (n_reversed:nsIn K mainGlobals "reversed"=some none)
  (n_sorted:nsIn K mainGlobals "sorted"=some none)
  (n_sum:nsIn K mainGlobals "sum"=some none)
  (n_zip:nsIn K mainGlobals "zip"=some none)
  (a1:nsIn K mainGlobals "is_number"=some (some (.ref f1)))
  (a2:nsIn K mainGlobals "checked_train"=some (some (.ref f2)))
  (a3:nsIn K mainGlobals "has_two_alike"=some (some (.ref f3)))
  (a4:nsIn K mainGlobals "behind"=some (some (.ref f4)))
  (a5:nsIn K mainGlobals "ranks"=some (some (.ref f5)))
  (a6:nsIn K mainGlobals "places_in_order"=some (some (.ref f6)))
  (l6:K.lookup f6=some ⟨oc6,od6,.func (fnOf "places_in_order" "places_in_order" (defArgs s_places_in_order) (defBody s_places_in_order) (defScope s_places_in_order) .none kV6 dc6 pm6 an6 cd6 ct6),sl6⟩)
  (c6:codeIn K cd6 "places_in_order"=true)
  (k6:keepIn K (.ref f6)=true)
  (lt6:tabIn K "places_in_order"=some (Lc6,Lt6))
  (lc6:cd6=.ref Lc6)
  (lh6:PySem.W.codeHdIn K Lc6 Lt6=true)
  (a7:nsIn K mainGlobals "forest_at_odds"=some (some (.ref f7)))
  (a8:nsIn K mainGlobals "shunted_blind"=some (some (.ref f8)))
  (a9:nsIn K mainGlobals "last_lesser"=some (some (.ref f9)))
  (a10:nsIn K mainGlobals "one_blind"=some (some (.ref f10)))
  (a11:nsIn K mainGlobals "through_one_blind"=some (some (.ref f11)))
  (a12:nsIn K mainGlobals "two_blind"=some (some (.ref f12)))
  (a13:nsIn K mainGlobals "_law_inserted"=some (some (.ref f13)))
  (a14:nsIn K mainGlobals "_law_made"=some (some (.ref f14)))
  (a15:nsIn K mainGlobals "_law_spoiled"=some (some (.ref f15)))
  (a16:nsIn K mainGlobals "_law_numbered"=some (some (.ref f16)))
  (a17:nsIn K mainGlobals "_law_goes"=some (some (.ref f17)))
  (a18:nsIn K mainGlobals "_law_goes_by_two"=some (some (.ref f18)))
  (a19:nsIn K mainGlobals "law"=some (some (.ref f19)))
  (l19:K.lookup f19=some ⟨oc19,od19,.func (fnOf "law" "law" (defArgs s_law) (defBody s_law) (defScope s_law) .none kV19 dc19 pm19 an19 cd19 ct19),sl19⟩)
  (c19:codeIn K cd19 "law"=true)
  (k19:keepIn K (.ref f19)=true)
  (aCYardError:nsIn K mainGlobals "YardError"=some (some (.ref CYardError)))
  (aCBadTrain:nsIn K mainGlobals "BadTrain"=some (some (.ref CBadTrain)))
  (aCAnswer:nsIn K mainGlobals "Answer"=some (some (.ref CAnswer)))
  (aCShunted:nsIn K mainGlobals "Shunted"=some (some (.ref CShunted)))
  (pgShunted:plainGet K CShunted Str.empty=true)
  (hdShunted:hasDictIn K CShunted=true)
  (poShunted:plainOver K CShunted=true)
  (saShunted:findIn K (.ref CShunted) "__setattr__"=some (some (.builtin "object.__setattr__")))
  (yaShunted:findIn K (.ref CShunted) "__class__"=some (some (.builtin "object.__class__")))
  (ynShunted:specialIn K (.builtin "object.__class__") "__get__"=some (some (.builtin "getset_descriptor.__get__")))
  (ytShunted:takesIn K (.builtin "object.__class__")=some true)
  (ymShunted:mroIn K CShunted (.type "object")=some true)
  (naShunted_moves:findIn K (.ref CShunted) "moves"=some none)
  (aCThree:nsIn K mainGlobals "Three"=some (some (.ref CThree)))
  (pgThree:plainGet K CThree Str.empty=true)
  (hdThree:hasDictIn K CThree=true)
  (poThree:plainOver K CThree=true)
  (saThree:findIn K (.ref CThree) "__setattr__"=some (some (.builtin "object.__setattr__")))
  (yaThree:findIn K (.ref CThree) "__class__"=some (some (.builtin "object.__class__")))
  (ynThree:specialIn K (.builtin "object.__class__") "__get__"=some (some (.builtin "getset_descriptor.__get__")))
  (ytThree:takesIn K (.builtin "object.__class__")=some true)
  (ymThree:mroIn K CThree (.type "object")=some true)
  (naThree_first:findIn K (.ref CThree) "first"=some none)
  (naThree_second:findIn K (.ref CThree) "second"=some none)
  (naThree_third:findIn K (.ref CThree) "third"=some none)
  (aCOdd:nsIn K mainGlobals "Odd"=some (some (.ref COdd)))
  (pgOdd:plainGet K COdd Str.empty=true)
  (hdOdd:hasDictIn K COdd=true)
  (poOdd:plainOver K COdd=true)
  (saOdd:findIn K (.ref COdd) "__setattr__"=some (some (.builtin "object.__setattr__")))
  (yaOdd:findIn K (.ref COdd) "__class__"=some (some (.builtin "object.__class__")))
  (ynOdd:specialIn K (.builtin "object.__class__") "__get__"=some (some (.builtin "getset_descriptor.__get__")))
  (ytOdd:takesIn K (.builtin "object.__class__")=some true)
  (ymOdd:mroIn K COdd (.type "object")=some true)
  (naOdd_places:findIn K (.ref COdd) "places"=some none)
  (naOdd_shown:findIn K (.ref COdd) "shown"=some none)
  (aCForest:nsIn K mainGlobals "Forest"=some (some (.ref CForest)))
  (pgForest:plainGet K CForest Str.empty=true)
  (hdForest:hasDictIn K CForest=true)
  (poForest:plainOver K CForest=true)
  (saForest:findIn K (.ref CForest) "__setattr__"=some (some (.builtin "object.__setattr__")))
  (naForest_depths:findIn K (.ref CForest) "depths"=some none)
  (naForest_neighbours:findIn K (.ref CForest) "neighbours"=some none)
  (naForest_parents:findIn K (.ref CForest) "parents"=some none)
  (aCGroups:nsIn K mainGlobals "Groups"=some (some (.ref CGroups)))
  (pgGroups:plainGet K CGroups Str.empty=true)
  (hdGroups:hasDictIn K CGroups=true)
  (poGroups:plainOver K CGroups=true)
  (saGroups:findIn K (.ref CGroups) "__setattr__"=some (some (.builtin "object.__setattr__")))
  (naGroups_neighbours:findIn K (.ref CGroups) "neighbours"=some none)
  (naGroups_pairs:findIn K (.ref CGroups) "pairs"=some none)
  (naGroups_wagons:findIn K (.ref CGroups) "wagons"=some none)
  (aCShunting:nsIn K mainGlobals "Shunting"=some (some (.ref CShunting)))
  (pgShunting:plainGet K CShunting Str.empty=true)
  (hdShunting:hasDictIn K CShunting=true)
  (poShunting:plainOver K CShunting=true)
  (saShunting:findIn K (.ref CShunting) "__setattr__"=some (some (.builtin "object.__setattr__")))
  (naShunting_gone:findIn K (.ref CShunting) "gone"=some none)
  (naShunting_leaving:findIn K (.ref CShunting) "leaving"=some none)
  (naShunting_moves:findIn K (.ref CShunting) "moves"=some none)
  (naShunting_stacks:findIn K (.ref CShunting) "stacks"=some none)
  (naShunting_tracks:findIn K (.ref CShunting) "tracks"=some none)
  (am0:findIn K (.ref CShunted) "__init__"=some (some (.ref fm0)))
  (mkm0:makesIn K CShunted=true)
  (ifm0:isFn K (.ref fm0)=true)
  (ikm0:keepIn K (.ref CShunted)=true)
  (am2:findIn K (.ref CThree) "__init__"=some (some (.ref fm2)))
  (mkm2:makesIn K CThree=true)
  (ifm2:isFn K (.ref fm2)=true)
  (ikm2:keepIn K (.ref CThree)=true)
  (am4:findIn K (.ref COdd) "__init__"=some (some (.ref fm4)))
  (mkm4:makesIn K COdd=true)
  (ifm4:isFn K (.ref fm4)=true)
  (ikm4:keepIn K (.ref COdd)=true)
  (am6:findIn K (.ref CForest) "__init__"=some (some (.ref fm6)))
  (mkm6:makesIn K CForest=true)
  (ifm6:isFn K (.ref fm6)=true)
  (ikm6:keepIn K (.ref CForest)=true)
  (am7:findIn K (.ref CForest) "grow"=some (some (.ref fm7)))
  (mfm7:isFn K (.ref fm7)=true)
  (am8:findIn K (.ref CForest) "grow_from"=some (some (.ref fm8)))
  (mfm8:isFn K (.ref fm8)=true)
  (am9:findIn K (.ref CForest) "path"=some (some (.ref fm9)))
  (mfm9:isFn K (.ref fm9)=true)
  (am10:findIn K (.ref CGroups) "__init__"=some (some (.ref fm10)))
  (mkm10:makesIn K CGroups=true)
  (ifm10:isFn K (.ref fm10)=true)
  (ikm10:keepIn K (.ref CGroups)=true)
  (am11:findIn K (.ref CGroups) "let_come"=some (some (.ref fm11)))
  (mfm11:isFn K (.ref fm11)=true)
  (am12:findIn K (.ref CGroups) "let_leave"=some (some (.ref fm12)))
  (mfm12:isFn K (.ref fm12)=true)
  (am13:findIn K (.ref CGroups) "greater"=some (some (.ref fm13)))
  (mfm13:isFn K (.ref fm13)=true)
  (am14:findIn K (.ref CShunting) "__init__"=some (some (.ref fm14)))
  (mkm14:makesIn K CShunting=true)
  (ifm14:isFn K (.ref fm14)=true)
  (ikm14:keepIn K (.ref CShunting)=true)
  (am15:findIn K (.ref CShunting) "let_all_come"=some (some (.ref fm15)))
  (mfm15:isFn K (.ref fm15)=true)
  (am16:findIn K (.ref CShunting) "let_those_leave_that_can"=some (some (.ref fm16)))
  (mfm16:isFn K (.ref fm16)=true)
  (am17:findIn K (.ref CShunting) "is_done"=some (some (.ref fm17)))
  (mfm17:isFn K (.ref fm17)=true)
  (am18:findIn K (.ref CShunting) "covered"=some (some (.ref fm18)))
  (mfm18:isFn K (.ref fm18)=true)
  (am19:findIn K (.ref CShunting) "cover"=some (some (.ref fm19)))
  (mfm19:isFn K (.ref fm19)=true)
  (kitThree_Shunted:kitOne K (.ref CThree) (.ref CShunted)=some false)
  (kitOdd_Shunted:kitOne K (.ref COdd) (.ref CShunted)=some false)
  (H1:FF K f1 "is_number" "is_number" s_is_number)
  (H2:FF K f2 "checked_train" "checked_train" s_checked_train)
  (H3:FF K f3 "has_two_alike" "has_two_alike" s_has_two_alike)
  (H4:FF K f4 "behind" "behind" s_behind)
  (H5:FF K f5 "ranks" "ranks" s_ranks)
  (H7:FF K f7 "forest_at_odds" "forest_at_odds" s_forest_at_odds)
  (H8:FF K f8 "shunted_blind" "shunted_blind" s_shunted_blind)
  (H9:FF K f9 "last_lesser" "last_lesser" s_last_lesser)
  (H10:FF K f10 "one_blind" "one_blind" s_one_blind)
  (H11:FF K f11 "through_one_blind" "through_one_blind" s_through_one_blind)
  (H12:FF K f12 "two_blind" "two_blind" s_two_blind)
  (H13:FF K f13 "_law_inserted" "_law_inserted" s__law_inserted)
  (H14:FF K f14 "_law_made" "_law_made" s__law_made)
  (H15:FF K f15 "_law_spoiled" "_law_spoiled" s__law_spoiled)
  (H16:FF K f16 "_law_numbered" "_law_numbered" s__law_numbered)
  (H17:FF K f17 "_law_goes" "_law_goes" s__law_goes)
  (H18:FF K f18 "_law_goes_by_two" "_law_goes_by_two" s__law_goes_by_two)
  (Hm0:FF K fm0 "__init__" "Shunted.__init__" s_Shunted_init)
  (Hm2:FF K fm2 "__init__" "Three.__init__" s_Three_init)
  (Hm4:FF K fm4 "__init__" "Odd.__init__" s_Odd_init)
  (Hm6:FF K fm6 "__init__" "Forest.__init__" s_Forest_init)
  (Hm7:FF K fm7 "grow" "Forest.grow" s_Forest_grow)
  (Hm8:FF K fm8 "grow_from" "Forest.grow_from" s_Forest_grow_from)
  (Hm9:FF K fm9 "path" "Forest.path" s_Forest_path)
  (Hm10:FF K fm10 "__init__" "Groups.__init__" s_Groups_init)
  (Hm11:FF K fm11 "let_come" "Groups.let_come" s_Groups_let_come)
  (Hm12:FF K fm12 "let_leave" "Groups.let_leave" s_Groups_let_leave)
  (Hm13:FF K fm13 "greater" "Groups.greater" s_Groups_greater)
  (Hm14:FF K fm14 "__init__" "Shunting.__init__" s_Shunting_init)
  (Hm15:FF K fm15 "let_all_come" "Shunting.let_all_come" s_Shunting_let_all_come)
  (Hm16:FF K fm16 "let_those_leave_that_can" "Shunting.let_those_leave_that_can" s_Shunting_let_those_leave_that_can)
  (Hm17:FF K fm17 "is_done" "Shunting.is_done" s_Shunting_is_done)
  (Hm18:FF K fm18 "covered" "Shunting.covered" s_Shunting_covered)
  (Hm19:FF K fm19 "cover" "Shunting.cover" s_Shunting_cover)
  : ∃ fd:FuncData,(∀ (s:Shared) (v:Value),BindsTo s fd ⟨[v],[]⟩ [("_law_script",v)]) /\ ∀ base:Heap,K.In base->base.Ns mainGlobals mg->FnOk l.prog w K mg base CX0 11 fa fd ["_law_script"] (sp_law K):=by
 have e:=hfa.symm.trans (mg_of X G a19)
 cases e
 have F1:=H1.f
 have b1:=F1.binds (ps:=["value"]) fun _ _ _ _ _ _ us hl=>match us,hl with | [_],_=>rfl
 have F2:=H2.f
 have b2:=F2.binds (ps:=["train"]) fun _ _ _ _ _ _ us hl=>match us,hl with | [_],_=>rfl
 have F3:=H3.f
 have b3:=F3.binds (ps:=["wagons"]) fun _ _ _ _ _ _ us hl=>match us,hl with | [_],_=>rfl
 have F4:=H4.f
 have b4:=F4.binds (ps:=["one", "other"]) fun _ _ _ _ _ _ us hl=>match us,hl with | [_,_],_=>rfl
 have F5:=H5.f
 have b5:=F5.binds (ps:=["wagons"]) fun _ _ _ _ _ _ us hl=>match us,hl with | [_],_=>rfl
 have F6:=fun_mk (st:=s_places_in_order) l6 c6 k6
 have b6:=F6.binds (ps:=["wagons"]) fun _ _ _ _ _ _ us hl=>match us,hl with | [_],_=>rfl
 have F7:=H7.f
 have b7:=F7.binds (ps:=["wagons", "leaving"]) fun _ _ _ _ _ _ us hl=>match us,hl with | [_,_],_=>rfl
 have F8:=H8.f
 have b8:=F8.binds (ps:=["leaving", "tracks", "many"]) fun _ _ _ _ _ _ us hl=>match us,hl with | [_,_,_],_=>rfl
 have F9:=H9.f
 have b9:=F9.binds (ps:=["leaving"]) fun _ _ _ _ _ _ us hl=>match us,hl with | [_],_=>rfl
 have F10:=H10.f
 have b10:=F10.binds (ps:=["train"]) fun _ _ _ _ _ _ us hl=>match us,hl with | [_],_=>rfl
 have F11:=H11.f
 have b11:=F11.binds (ps:=["wagons"]) fun _ _ _ _ _ _ us hl=>match us,hl with | [_],_=>rfl
 have F12:=H12.f
 have b12:=F12.binds (ps:=["train"]) fun _ _ _ _ _ _ us hl=>match us,hl with | [_],_=>rfl
 have F13:=H13.f
 have b13:=F13.binds (ps:=["_law_script"]) fun _ _ _ _ _ _ us hl=>match us,hl with | [_],_=>rfl
 have F14:=H14.f
 have b14:=F14.binds (ps:=["_law_script", "_law_blind", "_law_many"]) fun _ _ _ _ _ _ us hl=>match us,hl with | [_,_,_],_=>rfl
 have F15:=H15.f
 have b15:=F15.binds (ps:=["_law_train", "_law_script"]) fun _ _ _ _ _ _ us hl=>match us,hl with | [_,_],_=>rfl
 have F16:=H16.f
 have b16:=F16.binds (ps:=["_law_train", "_law_more"]) fun _ _ _ _ _ _ us hl=>match us,hl with | [_,_],_=>rfl
 have F17:=H17.f
 have b17:=F17.binds (ps:=["_law_train"]) fun _ _ _ _ _ _ us hl=>match us,hl with | [_],_=>rfl
 have F18:=H18.f
 have b18:=F18.binds (ps:=["_law_train"]) fun _ _ _ _ _ _ us hl=>match us,hl with | [_],_=>rfl
 have F19:=fun_mk (st:=s_law) l19 c19 k19
 have Fm0:=Hm0.f
 have bm0:=Fm0.binds (ps:=["self", "moves"]) fun _ _ _ _ _ _ us hl=>match us,hl with | [_,_],_=>rfl
 have Fm2:=Hm2.f
 have bm2:=Fm2.binds (ps:=["self", "first", "second", "third"]) fun _ _ _ _ _ _ us hl=>match us,hl with | [_,_,_,_],_=>rfl
 have Fm4:=Hm4.f
 have bm4:=Fm4.binds (ps:=["self", "places", "shown"]) fun _ _ _ _ _ _ us hl=>match us,hl with | [_,_,_],_=>rfl
 have Fm6:=Hm6.f
 have bm6:=Fm6.binds (ps:=["self", "neighbours"]) fun _ _ _ _ _ _ us hl=>match us,hl with | [_,_],_=>rfl
 have Fm7:=Hm7.f
 have bm7:=Fm7.binds (ps:=["self"]) fun _ _ _ _ _ _ us hl=>match us,hl with | [_],_=>rfl
 have Fm8:=Hm8.f
 have bm8:=Fm8.binds (ps:=["self", "root"]) fun _ _ _ _ _ _ us hl=>match us,hl with | [_,_],_=>rfl
 have Fm9:=Hm9.f
 have bm9:=Fm9.binds (ps:=["self", "one", "other"]) fun _ _ _ _ _ _ us hl=>match us,hl with | [_,_,_],_=>rfl
 have Fm10:=Hm10.f
 have bm10:=Fm10.binds (ps:=["self", "wagons"]) fun _ _ _ _ _ _ us hl=>match us,hl with | [_,_],_=>rfl
 have Fm11:=Hm11.f
 have bm11:=Fm11.binds (ps:=["self", "place"]) fun _ _ _ _ _ _ us hl=>match us,hl with | [_,_],_=>rfl
 have Fm12:=Hm12.f
 have bm12:=Fm12.binds (ps:=["self", "place"]) fun _ _ _ _ _ _ us hl=>match us,hl with | [_,_],_=>rfl
 have Fm13:=Hm13.f
 have bm13:=Fm13.binds (ps:=["self", "one", "other"]) fun _ _ _ _ _ _ us hl=>match us,hl with | [_,_,_],_=>rfl
 have Fm14:=Hm14.f
 have bm14:=Fm14.binds (ps:=["self", "leaving", "tracks", "many"]) fun _ _ _ _ _ _ us hl=>match us,hl with | [_,_,_,_],_=>rfl
 have Fm15:=Hm15.f
 have bm15:=Fm15.binds (ps:=["self"]) fun _ _ _ _ _ _ us hl=>match us,hl with | [_],_=>rfl
 have Fm16:=Hm16.f
 have bm16:=Fm16.binds (ps:=["self"]) fun _ _ _ _ _ _ us hl=>match us,hl with | [_],_=>rfl
 have Fm17:=Hm17.f
 have bm17:=Fm17.binds (ps:=["self"]) fun _ _ _ _ _ _ us hl=>match us,hl with | [_],_=>rfl
 have Fm18:=Hm18.f
 have bm18:=Fm18.binds (ps:=["self"]) fun _ _ _ _ _ _ us hl=>match us,hl with | [_],_=>rfl
 have Fm19:=Hm19.f
 have bm19:=Fm19.binds (ps:=["self"]) fun _ _ _ _ _ _ us hl=>match us,hl with | [_],_=>rfl
 have T:Tx K mg ⟨CYardError,CBadTrain,CAnswer,CShunted,CThree,COdd,CForest,CGroups,CShunting,Lc6,Lt6⟩:=⟨mg_none_of X G n_any,
  mg_none_of X G n_bool,
  mg_none_of X G n_enumerate,
  mg_none_of X G n_int,
  mg_none_of X G n_isinstance,
  mg_none_of X G n_len,
  mg_none_of X G n_list,
  mg_none_of X G n_max,
  mg_none_of X G n_min,
  mg_none_of X G n_range,
  mg_none_of X G n_reversed,
  mg_none_of X G n_sorted,
  mg_none_of X G n_sum,
  mg_none_of X G n_zip,
  ⟨⟨_,_,F1,mg_of X G a1,b1⟩⟩,
  ⟨⟨_,_,F2,mg_of X G a2,b2⟩⟩,
  ⟨⟨_,_,F3,mg_of X G a3,b3⟩⟩,
  ⟨⟨_,_,F4,mg_of X G a4,b4⟩⟩,
  ⟨⟨_,_,F5,mg_of X G a5,b5⟩⟩,
  ⟨⟨_,_,F6,mg_of X G a6,b6,lc6⟩,lh6⟩,
  lt6,
  ⟨⟨_,_,F7,mg_of X G a7,b7⟩⟩,
  ⟨⟨_,_,F8,mg_of X G a8,b8⟩⟩,
  ⟨⟨_,_,F9,mg_of X G a9,b9⟩⟩,
  ⟨⟨_,_,F10,mg_of X G a10,b10⟩⟩,
  ⟨⟨_,_,F11,mg_of X G a11,b11⟩⟩,
  ⟨⟨_,_,F12,mg_of X G a12,b12⟩⟩,
  ⟨⟨_,_,F13,mg_of X G a13,b13⟩⟩,
  ⟨⟨_,_,F14,mg_of X G a14,b14⟩⟩,
  ⟨⟨_,_,F15,mg_of X G a15,b15⟩⟩,
  ⟨⟨_,_,F16,mg_of X G a16,b16⟩⟩,
  ⟨⟨_,_,F17,mg_of X G a17,b17⟩⟩,
  ⟨⟨_,_,F18,mg_of X G a18,b18⟩⟩,
  mg_of X G aCShunted,
  ⟨pgShunted,hdShunted,poShunted,saShunted⟩,
  ⟨yaShunted,ynShunted,ytShunted,ymShunted⟩,
  naShunted_moves,
  mg_of X G aCThree,
  ⟨pgThree,hdThree,poThree,saThree⟩,
  ⟨yaThree,ynThree,ytThree,ymThree⟩,
  naThree_first,
  naThree_second,
  naThree_third,
  mg_of X G aCOdd,
  ⟨pgOdd,hdOdd,poOdd,saOdd⟩,
  ⟨yaOdd,ynOdd,ytOdd,ymOdd⟩,
  naOdd_places,
  naOdd_shown,
  mg_of X G aCForest,
  ⟨pgForest,hdForest,poForest,saForest⟩,
  naForest_depths,
  naForest_neighbours,
  naForest_parents,
  mg_of X G aCGroups,
  ⟨pgGroups,hdGroups,poGroups,saGroups⟩,
  naGroups_neighbours,
  naGroups_pairs,
  naGroups_wagons,
  mg_of X G aCShunting,
  ⟨pgShunting,hdShunting,poShunting,saShunting⟩,
  naShunting_gone,
  naShunting_leaving,
  naShunting_moves,
  naShunting_stacks,
  naShunting_tracks,
  ⟨⟨_,_,Fm0,⟨mkm0,am0,ifm0,ikm0⟩,bm0⟩⟩,
  ⟨⟨_,_,Fm2,⟨mkm2,am2,ifm2,ikm2⟩,bm2⟩⟩,
  ⟨⟨_,_,Fm4,⟨mkm4,am4,ifm4,ikm4⟩,bm4⟩⟩,
  ⟨⟨_,_,Fm6,⟨mkm6,am6,ifm6,ikm6⟩,bm6⟩⟩,
  ⟨⟨_,_,Fm7,⟨am7,mfm7,Hm7.k⟩,bm7⟩⟩,
  ⟨⟨_,_,Fm8,⟨am8,mfm8,Hm8.k⟩,bm8⟩⟩,
  ⟨⟨_,_,Fm9,⟨am9,mfm9,Hm9.k⟩,bm9⟩⟩,
  ⟨⟨_,_,Fm10,⟨mkm10,am10,ifm10,ikm10⟩,bm10⟩⟩,
  ⟨⟨_,_,Fm11,⟨am11,mfm11,Hm11.k⟩,bm11⟩⟩,
  ⟨⟨_,_,Fm12,⟨am12,mfm12,Hm12.k⟩,bm12⟩⟩,
  ⟨⟨_,_,Fm13,⟨am13,mfm13,Hm13.k⟩,bm13⟩⟩,
  ⟨⟨_,_,Fm14,⟨mkm14,am14,ifm14,ikm14⟩,bm14⟩⟩,
  ⟨⟨_,_,Fm15,⟨am15,mfm15,Hm15.k⟩,bm15⟩⟩,
  ⟨⟨_,_,Fm16,⟨am16,mfm16,Hm16.k⟩,bm16⟩⟩,
  ⟨⟨_,_,Fm17,⟨am17,mfm17,Hm17.k⟩,bm17⟩⟩,
  ⟨⟨_,_,Fm18,⟨am18,mfm18,Hm18.k⟩,bm18⟩⟩,
  ⟨⟨_,_,Fm19,⟨am19,mfm19,Hm19.k⟩,bm19⟩⟩,
  kitThree_Shunted,
  kitOdd_Shunted⟩
 exact ⟨_,fun s v=>.of_eq rfl,fun base _ _=>ok T F19⟩
theorem walk{l:PySem.W.OpenLaw}{q:Program}{loose:List Str}{XP:(Str->Option Value)->Heap->Prop}{YP:World->Heap->Prop}{d:DefRec}{K:Params->PySem.W.Frag}(hn:l.most=some 63)(hdf:d.params.defaults=[])
  (hY:∀ (w:World) (h:Heap),YP w h->(K w.params).In h)
  (hL:∀ e∈lams,∃ d',(PyProof.Rows.recsOf q).find? (fun r=>r.name==e.1)=some d') (hK:∀ (w:World),∀ e∈lams,∀ c P,tabIn (K w.params) e.1=some (c,P)->(K w.params).lookup P=none)
  (F:∀ (w:World) (mg:Str->Option Value) (fa:Addr) (h:Heap),(K w.params).In h->h.Ns mainGlobals mg->mg d.name=some (.ref fa)->
   ∃ fd:FuncData,(∀ (s:Shared) (u:Value),BindsTo s fd ⟨[u],[]⟩ [("_law_script",u)]) /\ ∀ base:Heap,(K w.params).In base->base.Ns mainGlobals mg->FnOk l.prog w (K w.params) mg base CX0 11 fa fd ["_law_script"] (sp_law (K w.params))):
  PySem.W.WalkO q loose XP YP l.row.toRowW d [] (fun f vs=>PySem.call f vs):=
 L2.walk_ofT (n:=63) (k:=11) (x := "_law_script") (CX:=fun _=>CX0) (sp:=fun w=>sp_law (K w.params)) lams hn (by decide) hdf ⟨rfl,by decide,by decide⟩ hY hL hK F (fun _ _ a ns hl hT hS=>⟨a,ns,rfl,hS,hl,hT,fun _=>rfl⟩) fun _ _ _ _ _ z=>z
theorem lam_free {K:PySem.W.Frag} {c0 p0:Addr} (a0:tabIn K "places_in_order"=some (c0,p0)) (b0:K.lookup p0=none):∀ e∈lams,∀ c P,tabIn K e.1=some (c,P)->K.lookup P=none:=by
 intro e he c P h
 simp only [lams,List.mem_cons,List.mem_nil_iff,or_false] at he
 rcases he with rfl
 ·rw [a0] at h;cases h;exact b0
end My
section
open PySem PySem.W PyProof.Rows
local macro_rules | `(tactic| o_head $H) => `(tactic| (
 refine holds_open (q:=My.pwv) (loose:=[]) (Xt:=fun s=>xlAt My.pwv [] s&&recOk (RowW.records _) s) (XP:=XL My.pwv []) (Yf:=Hook.obs $H) (Ya:=Hook.val $H) (YP:=Hook.says $H) (N:=20000)
  (L2.left_of_T3 (p:=PySem.Challenge.pw_sidings_k07_behind) (H₀:=boot_heap) (T₀:=fun P=>L2.treeOf (boot_heap P).objs.toList) (life:=(boot_heap (aWorld 1).params).life) (d₀:=boot_drawn) (k₀:=boot_toks) (m₀:=11) (ann:=some (.ref 6)) (boot_open (by kernel_rfl!) (by decide) (fun s=>by kernel_rfl!)) (fun P=>by kernel_rfl!) (fun w=>by kernel_rfl!) My.seen_a My.seen_b ?obs)
  (Hook.of $H) (Hook.keeps $H) (fun s e=>xl_of s (Bool.and_eq_true_iff.mp e).1) XL.keeps (by rfl) (by rfl) (by rfl) (fun s e=>recFacts_of (Bool.and_eq_true_iff.mp e).2) (by rfl) (by first | assumption | decide +kernel) (by decide +kernel) ⟨rfl,rfl,rfl,rfl,rfl,by decide +kernel⟩ ?hw ?hc))
set_option maxRecDepth 100000 in
set_option maxHeartbeats 0 in
theorem My.early(ok:My.OkL PySem.Challenge.rw_sidings_k07_behind):PySem.Challenge.rw_sidings_k07_behind.Holds:=by
 w_on;o_law;k_head
 (case obs=>
  intro w os
  rewrite [PySem.W.Fast.te10156331382660048174,PySem.W.Fast.te11892475500146522536,PySem.W.Fast.te14364793385576792824]
  kernel_rfl)
 (case hw=>w_witness2)
 k_fill
 refine My.walk (l:=PySem.Challenge.rw_sidings_k07_behind) rfl rfl (fun w h Y=>by first | exact PySem.W.km_in_of Y | exact PySem.W.kIn_of Y) ?hL ?hK ?F
 case hL=>
  intro e he
  simp only [My.lams,List.mem_cons,List.mem_nil_iff,or_false] at he
  rcases he with rfl<;>exact ⟨_,rfl⟩
 case hK=>
  intro w
  refine' My.lam_free ?a0 ?b0
  (case a0=>first | k_is | kernel_rfl! | exact rfl)
  (case b0=>first | k_is | kernel_rfl! | exact rfl)
 case F=>
  intro w mg fa h KX G hmg
  refine' My.all_mk ok KX G hmg ?n_any ?n_bool ?n_enumerate ?n_int ?n_isinstance ?n_len ?n_list ?n_max ?n_min ?n_range ?n_reversed ?n_sorted ?n_sum ?n_zip ?a1 ?a2 ?a3 ?a4 ?a5 ?a6 ?l6 ?c6 ?k6 ?lt6 ?lc6 ?lh6 ?a7 ?a8 ?a9 ?a10 ?a11 ?a12 ?a13 ?a14 ?a15 ?a16 ?a17 ?a18 ?a19 ?l19 ?c19 ?k19 ?aCYardError ?aCBadTrain ?aCAnswer ?aCShunted ?pgShunted ?hdShunted ?poShunted ?saShunted ?yaShunted ?ynShunted ?ytShunted ?ymShunted ?naShunted_moves ?aCThree ?pgThree ?hdThree ?poThree ?saThree ?yaThree ?ynThree ?ytThree ?ymThree ?naThree_first ?naThree_second ?naThree_third ?aCOdd ?pgOdd ?hdOdd ?poOdd ?saOdd ?yaOdd ?ynOdd ?ytOdd ?ymOdd ?naOdd_places ?naOdd_shown ?aCForest ?pgForest ?hdForest ?poForest ?saForest ?naForest_depths ?naForest_neighbours ?naForest_parents ?aCGroups ?pgGroups ?hdGroups ?poGroups ?saGroups ?naGroups_neighbours ?naGroups_pairs ?naGroups_wagons ?aCShunting ?pgShunting ?hdShunting ?poShunting ?saShunting ?naShunting_gone ?naShunting_leaving ?naShunting_moves ?naShunting_stacks ?naShunting_tracks ?am0 ?mkm0 ?ifm0 ?ikm0 ?am2 ?mkm2 ?ifm2 ?ikm2 ?am4 ?mkm4 ?ifm4 ?ikm4 ?am6 ?mkm6 ?ifm6 ?ikm6 ?am7 ?mfm7 ?am8 ?mfm8 ?am9 ?mfm9 ?am10 ?mkm10 ?ifm10 ?ikm10 ?am11 ?mfm11 ?am12 ?mfm12 ?am13 ?mfm13 ?am14 ?mkm14 ?ifm14 ?ikm14 ?am15 ?mfm15 ?am16 ?mfm16 ?am17 ?mfm17 ?am18 ?mfm18 ?am19 ?mfm19 ?kitThree_Shunted ?kitOdd_Shunted ?H1 ?H2 ?H3 ?H4 ?H5 ?H7 ?H8 ?H9 ?H10 ?H11 ?H12 ?H13 ?H14 ?H15 ?H16 ?H17 ?H18 ?Hm0 ?Hm2 ?Hm4 ?Hm6 ?Hm7 ?Hm8 ?Hm9 ?Hm10 ?Hm11 ?Hm12 ?Hm13 ?Hm14 ?Hm15 ?Hm16 ?Hm17 ?Hm18 ?Hm19
  (case n_any | n_bool | n_enumerate | n_int | n_isinstance | n_len | n_list | n_max | n_min | n_range | n_reversed | n_sorted | n_sum | n_zip | a1 | a2 | a3 | a4 | a5 | a6 | l6 | c6 | k6=>first | k_is | kernel_rfl!)
  (case lt6=>first | k_is | kernel_rfl! | exact rfl)
  (case lc6=>first | exact rfl | k_is | kernel_rfl!)
  (case lh6 | a7 | a8 | a9 | a10 | a11 | a12 | a13 | a14 | a15 | a16 | a17 | a18 | a19 | l19 | c19 | k19 | aCYardError | aCBadTrain | aCAnswer | aCShunted | pgShunted | hdShunted | poShunted | saShunted | yaShunted | ynShunted | ytShunted | ymShunted | naShunted_moves | aCThree | pgThree | hdThree | poThree | saThree | yaThree | ynThree | ytThree | ymThree | naThree_first | naThree_second | naThree_third | aCOdd | pgOdd | hdOdd | poOdd | saOdd | yaOdd | ynOdd | ytOdd | ymOdd | naOdd_places | naOdd_shown | aCForest | pgForest | hdForest | poForest | saForest | naForest_depths | naForest_neighbours | naForest_parents | aCGroups | pgGroups | hdGroups | poGroups | saGroups | naGroups_neighbours | naGroups_pairs | naGroups_wagons | aCShunting | pgShunting | hdShunting | poShunting | saShunting | naShunting_gone | naShunting_leaving | naShunting_moves | naShunting_stacks | naShunting_tracks | am0 | mkm0 | ifm0 | ikm0 | am2 | mkm2 | ifm2 | ikm2 | am4 | mkm4 | ifm4 | ikm4 | am6 | mkm6 | ifm6 | ikm6 | am7 | mfm7 | am8 | mfm8 | am9 | mfm9 | am10 | mkm10 | ifm10 | ikm10 | am11 | mfm11 | am12 | mfm12 | am13 | mfm13 | am14 | mkm14 | ifm14 | ikm14 | am15 | mfm15 | am16 | mfm16 | am17 | mfm17 | am18 | mfm18 | am19 | mfm19 | kitThree_Shunted | kitOdd_Shunted=>first | k_is | kernel_rfl!)
  (case H1 | H2 | H3 | H4 | H5 | H7 | H8 | H9 | H10 | H11 | H12 | H13 | H14 | H15 | H16 | H17 | H18 | Hm0 | Hm2 | Hm4 | Hm6 | Hm7 | Hm8 | Hm9 | Hm10 | Hm11 | Hm12 | Hm13 | Hm14 | Hm15 | Hm16 | Hm17 | Hm18 | Hm19=>exact My.FF.of (by first | k_is | kernel_rfl!) (by first | k_is | kernel_rfl!) (by first | k_is | kernel_rfl!))
end
namespace My
open PySem L2
section
variable {P:Program} {w:World} {K:PySem.W.Frag} {mg:Str->Option Value} {base:Heap} {Z:Adr}
def TabH(Z:Adr)(H:Hp):Prop:=H Z.lt_places_in_order=some (.tbl lp_places_in_order lq_places_in_order)
theorem TabH.of{H:Hp}(T:Tx K mg Z)(h:TabsIn K lams H):TabH Z H:=h _ _ (tabs_one T.lo_places_in_order)
theorem TabH.same{H H':Hp}(h:TabH Z H)(s:Same H H'):TabH Z H':=s _ _ h
def sp_places(Z:Adr):Sp:=fun vs H Q _=>∃ (a:Addr) (T:List Int),vs=[.ref a] /\ H a=some (.lst (T.map V.int)) /\ T.length <= 199 /\ TabH Z H /\ ∀ (l:Addr) (H':Hp) (ord:List Nat),Same H H'->H l=none->Rank T ord->H' l=some (.lst (ordV ord))->Q (.ref l) H'
theorem sc_places_in_order:FnScope ["wagons"] ["wagons"] (defScope s_places_in_order):=⟨rfl,rfl,rfl,by decide +kernel,rfl,by decide +kernel,by decide +kernel⟩
theorem C_places_in_order(T:Tx K mg Z):Ctr P w K mg base CX0 3 "places_in_order" ["wagons"] (sp_places Z):=by
 refine ctr_ofC T.lm_places_in_order fun f fd F hc=>F.okC hc sc_places_in_order (fun vs H Q E h=>?_) (fun A outer s H vs Q E hr h=>?_)
 ·obtain ⟨a,T,rfl,_⟩:=h
  rfl
 ·obtain ⟨a,tr,rfl,ha,hz,hP,k⟩:=h
  refine' ⟨_,?hterm,?_⟩
  case hterm=>
   refine' pss_one ?q1
   case' q1=>refine' ps_ret ?q2
   case q2=>
    refine' pe_key (k:=0) (P:=Z.lt_places_in_order) (c:=Z.lc_places_in_order) (x := "place") (y := "wagons") (j:=0) sortTo199 (by decide) ?q3 (hr.mono (by decide)) rfl (fun kin=>PySem.W.codeHd_of_K kin T.lm_places_in_order.hd)
     (csc_of (sc:=defScope s_places_in_order) (N:=["wagons"]) (cap:=[none,some 0]) (N':=["place", "wagons"]) rfl rfl ⟨rfl,by decide +kernel,by decide +kernel,by decide +kernel,rfl,by decide +kernel⟩) rfl rfl rfl rfl (by rfl) T.n_sorted rfl (fun _ _ _ _ _=>rfl)
    case' q3=>refine' pe_callTy call_rangeV (by rfl) T.n_range b_range ?q4
    case' q4=>refine' pa_cons ?q5 pa_nil
    case' q5=>refine' pe_callB (callK_len (K:=K) (by rfl)) (by rfl) T.n_len b_len ?q6
    case q6=>exact pa_cons (pv 0) pa_nil
  refine ⟨_,rfl,_,_,rfl,.inl ⟨_,SqL.of ha,rfl⟩,0,_,.inl ⟨rfl,rfl⟩,fun r hr'=>⟨r,a,tr,rfl,?_,rfl,upd_get ha hr',hz,upd_get hP hr',fun l H' ord s1 hl hord hl'=>k l H' ord ((Same.upd hr').trans s1) ((Same.upd hr').free hl) hord hl'⟩⟩
  rw [upd_same,List.length_map]
def sp_numbered:Sp:=fun vs H Q _=>∃ (a:Addr) (T:List Int) (m:Int),vs=[.ref a,.int m] /\ H a=some (.lst (T.map V.int)) /\ T.length < 200 /\
 ∀ (l:Addr) (H':Hp),Same H H'->H l=none->H' l=some (.lst ((T.map fun x=>(cnt T x:Int)+m).map V.int))->Q (.ref l) H'
theorem sc__law_numbered:FnScope ["_law_train", "_law_more"] ["_law_train", "_law_more"] (defScope s__law_numbered):=⟨rfl,rfl,rfl,by decide +kernel,rfl,by decide +kernel,by decide +kernel⟩
theorem C__law_numbered(T:Tx K mg Z):Ctr P w K mg base CX0 1 "_law_numbered" ["_law_train", "_law_more"] sp_numbered:=by
 refine ctr_of T._law_numbered fun f fd F=>F.ok sc__law_numbered (fun vs H Q E h=>?_) (fun cdv A outer s H vs Q E hr h=>?_)
 ·obtain ⟨a,T,m,rfl,_⟩:=h
  rfl
 ·obtain ⟨a,tr,m,rfl,ha,hz,kQ⟩:=h
  refine' ⟨_,?hterm,?_⟩
  case hterm=>
   refine' pss_one ?q1
   case' q1=>refine' ps_ret ?q2
   case' q2=>refine' pe_compCl rfl (cscC_of (sc:=defScope s__law_numbered) (N:=["_law_train", "_law_more"]) (cap:=[none,some 0,some 1]) (N':=["_law_wagon", "_law_train", "_law_more"]) rfl rfl ⟨rfl,by decide +kernel,by decide +kernel,by decide +kernel,by decide +kernel,rfl,by decide +kernel⟩) ?q3 (fun _ _ _ _=>?q4) (fun _ _ _ _=>pif_nil) (fun _ _ _ _=>?q5)
   case q3=>exact pi_listK (K:=K) (by rfl) (pv 0)
   case q4=>exact pg_name (i:=0) (show List.Nodup (["_law_wagon", "_law_train", "_law_more"]:List Str) from by decide +kernel) (by rfl) (by exact Or.inr rfl)
   case q5=>
    refine' pe_op (op_addK (K:=K) (by rfl)) ?q6 (pv 2)
    case' q6=>refine' pe_callB (callK_len (K:=K) (by rfl)) (by rfl) T.n_len b_len ?q7
    case' q7=>refine' pa_cons ?q8 pa_nil
    case' q8=>refine' pe_comp rfl (csc_in (scF:=defScope s__law_numbered) (N2:=["_law_other", "_law_wagon"]) (cap2:=[none,some 0]) rfl ⟨rfl,by decide +kernel,by decide +kernel,by decide +kernel,rfl,by decide +kernel⟩) ?q9 (fun _ _ _ _=>?q10) (fun _ _ _ _=>?q11) (fun _ _ _ _=>?q12)
    case q9=>exact pi_listK (K:=K) (by rfl) (pv 1)
    case q10=>exact pg_name (i:=0) (show List.Nodup (["_law_other", "_law_wagon"]:List Str) from by decide +kernel) (by rfl) (by exact Or.inl rfl)
    case q11=>exact pif_one (pt_cmpR op_lt (pv 0) (pv 1) (nomark _))
    case q12=>exact pv 0
  refine ⟨_,rfl,a,rfl,⟨_,SqL.of ha⟩,fun p hp=>?_⟩
  refine turns_list (K:=K) (a:=a) (xs:=tr.map V.int) (fun i σ H1=>(∃ v,σ=[v,some (.ref a),some (.int m)]) /\ Same H H1 /\ H1 p=some (.lst (((tr.take i).map fun x=>(cnt tr x:Int)+m).map V.int)))
   ⟨⟨_,rfl⟩,Same.upd hp,upd_same⟩ (fun i σ H1 _ h=>SqL.of (h.2.1 _ _ ha)) ?_ ?_
  ·rintro i x σ H1 hx ⟨⟨v,rfl⟩,s1,h1⟩
   obtain ⟨z,ez,rfl⟩:=getMap hx
   have hi:=(List.getElem?_eq_some_iff.mp ez).1
   refine ⟨_,rfl,a,rfl,⟨_,SqL.of (s1 _ _ ha)⟩,fun p2 hp2=>?_⟩
   refine turns_list (K:=K) (a:=a) (xs:=tr.map V.int) (fun j σ H2=>(∃ v,σ=[v,some (.int z)]) /\ Same H1 H2 /\ H2 p2=some (.lst (((tr.take j).filter fun y=>decide (y < z)).map V.int)))
    ⟨⟨_,rfl⟩,Same.upd hp2,upd_same⟩ (fun j σ H2 _ h=>SqL.of (h.2.1 _ _ (s1 _ _ ha))) ?_ ?_
   ·rintro j y σ H2 hy ⟨⟨v2,rfl⟩,s2,h2⟩
    obtain ⟨u,eu,rfl⟩:=getMap hy
    have hj:=(List.getElem?_eq_some_iff.mp eu).1
    refine ⟨_,rfl,_,rfl,_,_,rfl,rfl,_,rfl,?_⟩
    by_cases hc:u < z
    ·refine iteDT hc ?_
     refine ⟨_,rfl,_,h2,?_,⟨_,rfl⟩,Same.updN s2 hp2,?_⟩
     ·rw [List.length_map]
      have:=List.length_filter_le (fun y=>decide (y < z)) (tr.take j)
      rw [List.length_take] at this
      exact small1000' (by omega)
     ·rw [upd_same,take_snoc eu,List.filter_append,List.map_append,List.filter_cons_of_pos (by simpa using hc)]
      rfl
    ·refine iteDF hc ⟨⟨_,rfl⟩,s2,?_⟩
     rw [h2,take_snoc eu,List.filter_append,List.filter_cons_of_neg (by simpa using hc),List.filter_nil,List.append_nil]
   rintro σ H2 ⟨_,s2,h2⟩
   rw [List.length_map,List.take_length] at h2
   refine ⟨_,_,rfl,.inl ⟨_,SqL.of h2,rfl⟩,_,rfl,.inl ⟨_,_,rfl,rfl,?_⟩⟩
   refine ⟨_,s2 _ _ h1,?_,⟨_,rfl⟩,Same.updN (s1.trans s2) hp,?_⟩
   ·rw [List.length_map,List.length_map,List.length_take]
    exact small1000' (by omega)
   ·rw [upd_same,take_snoc ez,List.map_append,List.map_append,List.length_map]
    rfl
  rintro σ H1 ⟨_,s1,h1⟩
  rw [List.length_map,List.take_length] at h1
  exact kQ p H1 s1 hp h1
def grf(wg nb pr:Addr):List (Str × V):=[("wagons",.ref wg),("neighbours",.ref nb),("pairs",.ref pr)]
theorem grf_wagons(wg nb pr:Addr):(grf wg nb pr).lookup ("wagons":Str)=some (.ref wg):=rfl
theorem grf_neighbours(wg nb pr:Addr):(grf wg nb pr).lookup ("neighbours":Str)=some (.ref nb):=rfl
theorem grf_pairs(wg nb pr:Addr):(grf wg nb pr).lookup ("pairs":Str)=some (.ref pr):=rfl
theorem grf_new(wg nb pr:Addr):putF "pairs" (.ref pr) (putF "neighbours" (.ref nb) (putF "wagons" (.ref wg) []))=grf wg nb pr:=rfl
theorem grf_no(wg nb pr:Addr):(grf wg nb pr).lookup ("let_come":Str)=none /\ (grf wg nb pr).lookup ("let_leave":Str)=none /\ (grf wg nb pr).lookup ("greater":Str)=none:=⟨rfl,rfl,rfl⟩
def PrT(H:Hp)(r:Addr)(x:Nat × Nat):Prop:=H r=some (.tup [.int (x.1:Int),.int (x.2:Int)])
structure Gk(Z:Adr)(H0 H:Hp)(q wg nA pr:Addr)(nbs:List Addr)(T:List Int)(nb:List (List Nat))(ps:List (Nat × Nat)):Prop where
 ins:∃ dq,H q=some (.ins Z.cGroups dq (grf wg nA pr))
 wg0:H0 wg=some (.lst (T.map V.int))
 stk:H nA=some (.lst (nbs.map V.ref))
 len:nbs.length=nb.length
 each:∀ (t:Nat) (a:Addr),nbs[t]?=some a->H a=some (.lst (ordV (nb.getD t []))) /\ H0 a=none /\ a≠pr /\ a≠nA
 apart:∀ (t u:Nat) (a b:Addr),nbs[t]?=some a->nbs[u]?=some b->t≠u->a≠b
 prs:∃ rs:List Addr,H pr=some (.lst (rs.map V.ref)) /\ Paired (PrT H) rs ps
 q0:H0 q=none
 k0:H0 nA=none
 m0:H0 pr=none
 ms:pr≠nA
 same:Same H0 H
section
variable {H0 H:Hp} {q wg nA pr:Addr} {nbs:List Addr} {T:List Int} {nb:List (List Nat)} {ps:List (Nat × Nat)}
theorem Gk.sameH(h:Gk Z H0 H q wg nA pr nbs T nb ps){H':Hp}(e:Same H H'):Gk Z H0 H' q wg nA pr nbs T nb ps:=
 ⟨let ⟨dq,z⟩:=h.ins;⟨dq,e _ _ z⟩,h.wg0,e _ _ h.stk,h.len,fun t a z=>let ⟨h1,r⟩:=h.each t a z;⟨e _ _ h1,r⟩,h.apart,let ⟨rs,e1,e2⟩:=h.prs;⟨rs,e _ _ e1,Paired.imp (fun _ _ z=>e _ _ z) e2⟩,h.q0,h.k0,h.m0,h.ms,h.same.trans e⟩
theorem Gk.setN(h:Gk Z H0 H q wg nA pr nbs T nb ps){t:Nat}{a:Addr}(ha:nbs[t]?=some a)(c:List Nat):Gk Z H0 (upd H a (.lst (ordV c))) q wg nA pr nbs T (nb.set t c) ps:=by
 obtain ⟨e1,e2,e3,e4⟩:=h.each t a ha
 have ht:t < nb.length:=by rw [<- h.len];exact (List.getElem?_eq_some_iff.mp ha).1
 obtain ⟨rs,p1,p2⟩:=h.prs
 refine ⟨?_,h.wg0,by rw [upd_ne e4.symm];exact h.stk,by rw [List.length_set];exact h.len,fun u b hb=>?_,h.apart,⟨rs,by rw [upd_ne e3.symm];exact p1,Paired.imp (fun r m z=>?_) p2⟩,h.q0,h.k0,h.m0,h.ms,Same.updN h.same e2⟩
 ·obtain ⟨dq,z⟩:=h.ins
  exact ⟨dq,by rw [upd_ne (ne_of z e1 fun w=>by cases w)];exact z⟩
 ·rw [Sh.getD_set ht]
  obtain ⟨f1,r⟩:=h.each u b hb
  by_cases hu:u=t
  ·subst hu
   have:b=a:=Option.some.inj (hb.symm.trans ha)
   subst this
   rw [if_pos rfl]
   exact ⟨upd_same,r⟩
  ·rw [if_neg hu,upd_ne (h.apart u t b a hb ha hu)]
   exact ⟨f1,r⟩
 ·unfold PrT at z ⊢
  rw [upd_ne (ne_of z e1 fun w=>by cases w)]
  exact z
theorem Gk.setP(h:Gk Z H0 H q wg nA pr nbs T nb ps){rs':List Addr}{ps':List (Nat × Nat)}(hp:Paired (PrT H) rs' ps'):Gk Z H0 (upd H pr (.lst (rs'.map V.ref))) q wg nA pr nbs T nb ps':=by
 obtain ⟨rs,p1,p2⟩:=h.prs
 refine ⟨?_,h.wg0,by rw [upd_ne h.ms.symm];exact h.stk,h.len,fun u b hb=>?_,h.apart,⟨rs',upd_same,Paired.imp (fun r m z=>?_) hp⟩,h.q0,h.k0,h.m0,h.ms,Same.updN h.same h.m0⟩
 ·obtain ⟨dq,z⟩:=h.ins
  exact ⟨dq,by rw [upd_ne (ne_of z p1 fun w=>by cases w)];exact z⟩
 ·obtain ⟨f1,f2,f3,f4⟩:=h.each u b hb
  exact ⟨by rw [upd_ne f3];exact f1,f2,f3,f4⟩
 ·unfold PrT at z ⊢
  rw [upd_ne (ne_of z p1 fun w=>by cases w)]
  exact z
end
theorem Paired.unsnoc{α β:Type}{F:α->β->Prop}{l:List α}{m:List β}{b:β}(h:Paired F l (m++[b])):∃ l' a,l=l'++[a] /\ Paired F l' m /\ F a b:=by
 have hl:=Paired.length h
 rw [List.length_append] at hl
 have hne:l≠[]:=fun z=>by rw [z] at hl;simp at hl
 refine ⟨l.dropLast,l.getLast hne,(List.dropLast_concat_getLast hne).symm,?_,?_⟩
 ·have:=Paired.take m.length h
  rw [List.take_left'  rfl] at this
  rw [List.dropLast_eq_take]
  simp only [List.length_cons,List.length_nil] at hl
  rw [show l.length - 1=m.length from by omega]
  exact this
 ·simp only [List.length_cons,List.length_nil] at hl
  have e:l[m.length]?=some (l.getLast hne):=by rw [<- List.getLast?_eq_some_getLast hne,List.getLast?_eq_getElem?];congr 1;omega
  obtain ⟨y,e1,e2⟩:=Paired.get h e
  rw [List.getElem?_append_right (Nat.le_refl _),Nat.sub_self] at e1
  cases e1
  exact e2
def sp_greater(Z:Adr):Sp:=fun vs H Q _=>∃ (H0:Hp) (q wg nA pr:Addr) (nbs:List Addr) (T:List Int) (nb:List (List Nat)) (ps:List (Nat × Nat)) (a b:Nat),vs=[.ref q,.int (a:Int),.int (b:Int)] /\ Gk Z H0 H q wg nA pr nbs T nb ps /\ a < T.length /\ b < T.length /\ Q (.int ((Gp.gr T a b:Nat):Int)) H
theorem sc_Groups_greater:FnScope ["self", "one", "other"] ["self", "one", "other"] (defScope s_Groups_greater):=⟨rfl,rfl,rfl,by decide +kernel,rfl,by decide +kernel,by decide +kernel⟩
theorem m_greater(T:Tx K mg Z):CtrM P w K mg base CX0 1 Z.cGroups "greater" ["self", "one", "other"] (sp_greater Z):=by
 refine ctrM_of T.k_Groups T.m_Groups_greater fun f fd F=>F.ok sc_Groups_greater (fun vs H Q E h=>?_) (fun cdv A outer s H vs Q E hr h=>?_)
 ·obtain ⟨H0,q,wg,nA,pr,nbs,T,nb,ps,a,b,rfl,_⟩:=h
  rfl
 ·obtain ⟨H0,q,wg,nA,pr,nbs,tr,nb,ps,a,b,rfl,hG,ha,hb,kQ⟩:=h
  refine' ⟨_,?hterm,?_⟩
  case hterm=>
   refine' pss_one ?q1
   case' q1=>refine' ps_ret ?q2
   case' q2=>refine' pe_ifExp ?q3 (pv 1) (pv 2)
   case' q3=>refine' pt_cmpR op_gt ?q4 ?q5 (nomark _)
   case q4=>
    refine' pe_ix (ix_K (K:=K) (by rfl)) ?q6 (pv 1) (fun _ _=>rfl)
    case q6=>exact pe_fldK (K:=K) (by rfl) (pv 0) rfl
   case q5=>
    refine' pe_ix (ix_K (K:=K) (by rfl)) ?q7 (pv 2) (fun _ _=>rfl)
    case q7=>exact pe_fldK (K:=K) (by rfl) (pv 0) rfl
  obtain ⟨dq,hq⟩:=hG.ins
  have hw:=hG.same _ _ hG.wg0
  have ix:∀ {p:Nat},p < tr.length->(tr.map V.int)[p]?=some (.int (tr.getD p 0)):=fun {p} hp=>by
   rw [List.getElem?_map,List.getElem?_eq_getElem hp,List.getD_eq_getElem?_getD,List.getElem?_eq_getElem hp]
   rfl
  refine ⟨_,rfl,q,_,dq,_,_,rfl,hq,T.k_Groups,T.a_Groups_wagons,grf_wagons _ _ _,_,rfl,.inl ⟨wg,_,(a:Int),_,rfl,rfl,SqL.of hw,atI_nat (ix ha),?_⟩⟩
  refine ⟨_,rfl,q,_,dq,_,_,rfl,hq,T.k_Groups,T.a_Groups_wagons,grf_wagons _ _ _,_,rfl,.inl ⟨wg,_,(b:Int),_,rfl,rfl,SqL.of hw,atI_nat (ix hb),?_⟩⟩
  refine ⟨_,_,rfl,rfl,_,rfl,?_⟩
  unfold Gp.gr at kQ
  by_cases hgt:tr.getD a 0 > tr.getD b 0
  ·rw [if_pos hgt] at kQ
   exact iteDT hgt ⟨_,rfl,kQ⟩
  ·rw [if_neg hgt] at kQ
   exact iteDF hgt ⟨_,rfl,kQ⟩
def sp_let_come(Z:Adr):Sp:=fun vs H Q _=>∃ (H0:Hp) (q wg nA pr:Addr) (nbs:List Addr) (T:List Int) (nb:List (List Nat)) (ps:List (Nat × Nat)) (i:Nat),vs=[.ref q,.int (i:Int)] /\ Gk Z H0 H q wg nA pr nbs T nb ps /\ ps.length <= 1000 /\ ∀ H',Gk Z H0 H' q wg nA pr nbs T nb (ps++[(i,i)])->Q .non H'
theorem sc_Groups_let_come:FnScope ["self", "place"] ["self", "place"] (defScope s_Groups_let_come):=⟨rfl,rfl,rfl,by decide +kernel,rfl,by decide +kernel,by decide +kernel⟩
theorem m_let_come(T:Tx K mg Z):CtrM P w K mg base CX0 1 Z.cGroups "let_come" ["self", "place"] (sp_let_come Z):=by
 refine ctrM_of T.k_Groups T.m_Groups_let_come fun f fd F=>F.ok sc_Groups_let_come (fun vs H Q E h=>?_) (fun cdv A outer s H vs Q E hr h=>?_)
 ·obtain ⟨H0,q,wg,nA,pr,nbs,T,nb,ps,i,rfl,_⟩:=h
  rfl
 ·obtain ⟨H0,q,wg,nA,pr,nbs,tr,nb,ps,i,rfl,hG,hl,kQ⟩:=h
  refine' ⟨_,?hterm,?_⟩
  case hterm=>
   refine' pss_one ?q1
   case' q1=>refine' ps_expr ?q2
   case' q2=>refine' pe_bmK (K:=K) (by rfl) PySem.F.plainAttrs_list PySem.F.slot_list_append PySem.F.type_list_append mt_append ?q3 ?q4
   case q3=>exact pe_fldK (K:=K) (by rfl) (pv 0) rfl
   case q4=>
    refine' pa_cons ?q5 pa_nil
    case q5=>
     refine' pe_tup ?q6
     case' q6=>refine' pa_cons (pv 1) ?q7
     case q7=>exact pa_cons (pv 1) pa_nil
  obtain ⟨dq,hq⟩:=hG.ins
  obtain ⟨rs,p1,p2⟩:=hG.prs
  refine ⟨_,rfl,q,_,dq,_,_,rfl,hq,T.k_Groups,T.a_Groups_pairs,grf_pairs _ _ _,.inl ⟨rfl,_,SqL.of p1⟩,?_⟩
  refine ⟨_,rfl,_,rfl,(by show 2 <= sizeLine;decide),fun t ht=>⟨pr,_,_,rfl,rfl,upd_get p1 ht,?_,?_⟩⟩
  ·rw [List.length_map,Paired.length p2]
   exact small1000' (by omega)
  have s1:=Same.upd (o:=.tup [.int (i:Int),.int (i:Int)]) ht
  have h2:=(hG.sameH s1).setP (rs':=rs++[t]) (ps':=ps++[(i,i)]) (Paired.snoc' (Paired.imp (fun _ _ z=>s1 _ _ z) p2) upd_same)
  rw [List.map_append] at h2
  exact kQ _ h2
def sp_let_leave(Z:Adr):Sp:=fun vs H Q _=>∃ (H0:Hp) (q wg nA pr:Addr) (nbs:List Addr) (T:List Int) (nb nb':List (List Nat)) (ps rp':List (Nat × Nat)) (i:Nat),vs=[.ref q,.int (i:Int)] /\ Gk Z H0 H q wg nA pr nbs T nb ps /\ i < T.length /\ nb.length=T.length /\ (∀ x∈ps,x.2 < T.length) /\
 (∀ a,(nb.getD a []).length+2*ps.length <= 1000) /\ Gp.leave T i ps.reverse nb i=some (nb',rp') /\ ∀ H',Gk Z H0 H' q wg nA pr nbs T nb' rp'.reverse->Q .non H'
theorem sc_Groups_let_leave:FnScope ["self", "place", "greatest", "other", "own"] ["self", "place"] (defScope s_Groups_let_leave):=⟨rfl,rfl,rfl,by decide +kernel,rfl,by decide +kernel,by decide +kernel⟩
theorem m_let_leave(T:Tx K mg Z):CtrM P w K mg base CX0 2 Z.cGroups "let_leave" ["self", "place"] (sp_let_leave Z):=by
 refine ctrM_of T.k_Groups T.m_Groups_let_leave fun f fd F=>F.ok sc_Groups_let_leave (fun vs H Q E h=>?_) (fun cdv A outer s H vs Q E hr h=>?_)
 ·obtain ⟨H0,q,wg,nA,pr,nbs,T,nb,nb',ps,rp',i,rfl,_⟩:=h
  rfl
 ·obtain ⟨H0,q,wg,nA,pr,nbs,tr,nb,nb',ps,rp',i,rfl,hG,hi,hnl,hps,hb,hlv,kQ⟩:=h
  refine' ⟨_,?hterm,?_⟩
  case hterm=>
   refine' pss_cons ?q1 ?q2
   case q1=>exact ps_set (i:=2) sc_Groups_let_leave.nd rfl (Or.inl rfl) (pv 1)
   case' q2=>refine' pss_cons ?q3 ?q4
   case q3=>
    refine' ps_while HP ?q5 ?q6
    case q5=>
     refine' pt_cmpR op_gt ?q7 (pv 1) (nomark _)
     case' q7=>refine' pe_ix (ix_K (K:=K) (by rfl)) ?q8 pe_int (fun _ _=>rfl)
     case' q8=>refine' pe_ix (ix_K (K:=K) (by rfl)) ?q9 ?q10 (fun _ _=>rfl)
     case q9=>exact pe_fldK (K:=K) (by rfl) (pv 0) rfl
     case q10=>exact pe_un un_neg pe_int
    case' q6=>refine' pss_cons ?q11 ?q12
    case q11=>
     refine' ps_set (i:=3) sc_Groups_let_leave.nd rfl (Or.inl rfl) ?q13
     case' q13=>refine' pe_ix (ix_K (K:=K) (by rfl)) ?q14 pe_int (fun _ _=>rfl)
     case' q14=>refine' pe_bmK0 (K:=K) (by rfl) PySem.F.plainAttrs_list PySem.F.slot_list_pop PySem.F.type_list_pop mt_popU ?q15
     case q15=>exact pe_fldK (K:=K) (by rfl) (pv 0) rfl
    case q12=>
     refine' pss_cons ?q16 ?q17
     case q16=>
      refine' ps_expr ?q18
      case' q18=>refine' pe_bmK (K:=K) (by rfl) PySem.F.plainAttrs_list PySem.F.slot_list_append PySem.F.type_list_append mt_append ?q19 ?q20
      case q19=>
       refine' pe_ix (ix_K (K:=K) (by rfl)) ?q21 (pv 1) (fun _ _=>rfl)
       case q21=>exact pe_fldK (K:=K) (by rfl) (pv 0) rfl
      case q20=>exact pa_cons (pv 3) pa_nil
     case' q17=>refine' pss_cons ?q22 ?q23
     case q22=>
      refine' ps_expr ?q24
      case' q24=>refine' pe_bmK (K:=K) (by rfl) PySem.F.plainAttrs_list PySem.F.slot_list_append PySem.F.type_list_append mt_append ?q25 ?q26
      case q25=>
       refine' pe_ix (ix_K (K:=K) (by rfl)) ?q27 (pv 3) (fun _ _=>rfl)
       case q27=>exact pe_fldK (K:=K) (by rfl) (pv 0) rfl
      case q26=>exact pa_cons (pv 1) pa_nil
     case' q23=>refine' pss_one ?q28
     case' q28=>refine' ps_set (i:=2) sc_Groups_let_leave.nd rfl (Or.inl rfl) ?q29
     case' q29=>refine' pe_methC (pv 0) (m_greater T) (hr.mono (by decide)) ?q30
     case' q30=>refine' pa_cons (pv 2) ?q31
     case q31=>exact pa_cons (pv 3) pa_nil
   case q4=>
    refine' pss_cons ?q32 ?q33
    case q32=>
     refine' ps_set (i:=4) sc_Groups_let_leave.nd rfl (Or.inl rfl) ?q34
     case' q34=>refine' pe_bmK0 (K:=K) (by rfl) PySem.F.plainAttrs_list PySem.F.slot_list_pop PySem.F.type_list_pop mt_popU ?q35
     case q35=>exact pe_fldK (K:=K) (by rfl) (pv 0) rfl
    case' q33=>refine' pss_cons ?q36 ?q37
    case q36=>
     refine' ps_set (i:=2) sc_Groups_let_leave.nd rfl (Or.inl rfl) ?q38
     case' q38=>refine' pe_methC (pv 0) (m_greater T) (hr.mono (by decide)) ?q39
     case' q39=>refine' pa_cons (pv 2) ?q40
     case' q40=>refine' pa_cons ?q41 pa_nil
     case q41=>exact pe_ix (ix_K (K:=K) (by rfl)) (pv 4) pe_int (fun _ _=>rfl)
    case' q37=>refine' pss_one ?q42
    case' q42=>refine' ps_if ?q43 ?q44 pss_nil
    case q43=>exact pt_cmpR (op_neK (K:=K) (by rfl) (by exact hr.units)) (pv 2) (pv 1) (nomark _)
    case' q44=>refine' pss_one ?q45
    case' q45=>refine' ps_expr ?q46
    case' q46=>refine' pe_bmK (K:=K) (by rfl) PySem.F.plainAttrs_list PySem.F.slot_list_append PySem.F.type_list_append mt_append ?q47 ?q48
    case q47=>exact pe_fldK (K:=K) (by rfl) (pv 0) rfl
    case' q48=>refine' pa_cons ?q49 pa_nil
    case' q49=>refine' pe_tup ?q50
    case' q50=>refine' pa_cons ?q51 ?q52
    case q51=>exact pe_ix (ix_K (K:=K) (by rfl)) (pv 4) pe_int (fun _ _=>rfl)
    case q52=>exact pa_cons (pv 2) pa_nil
  refine ⟨_,rfl,?_⟩
  refine ⟨fun m σ H1=>∃ (n1:List (List Nat)) (p1:List (Nat × Nat)) (g1:Nat) (v3 v4:Option V),m=p1.length /\ σ=[some (.ref q),some (.int (i:Int)),some (.int (g1:Int)),v3,v4] /\ Gk Z H0 H1 q wg nA pr nbs tr n1 p1 /\ n1.length=tr.length /\ g1 < tr.length /\ (∀ x∈p1,x.2 < tr.length) /\ (∀ a,(n1.getD a []).length+2*p1.length <= 1000) /\ Gp.leave tr i p1.reverse n1 g1=some (nb',rp'),
   ⟨_,nb,ps,i,none,none,rfl,rfl,hG,hnl,hi,hps,hb,hlv⟩,?_⟩
  rintro m σ H1 ⟨n1,p1,g1,v3,v4,rfl,rfl,hG1,hn1,hg1,hp1,hb1,hl1⟩
  obtain ⟨dq,hq⟩:=hG1.ins
  rcases List.eq_nil_or_concat p1 with rfl | ⟨r,x,rfl⟩
  ·cases hl1
  rw [List.concat_eq_append] at*
  rw [List.reverse_append] at hl1
  change Gp.leave tr i (x :: r.reverse) n1 g1=some (nb',rp') at hl1
  unfold Gp.leave at hl1
  obtain ⟨rs,q1,q2⟩:=hG1.prs
  obtain ⟨rs',rl,rfl,q3,q4⟩:=Paired.unsnoc q2
  have hx2:=hp1 x (by simp)
  refine ⟨_,rfl,q,_,dq,_,_,rfl,hq,T.k_Groups,T.a_Groups_pairs,grf_pairs _ _ _,1,rfl,.inl ⟨pr,_,-1,.ref rl,rfl,rfl,SqL.of q1,by rw [List.map_append];exact atI_last _ _,?_⟩⟩
  refine .inr ⟨rl,_,0,.int (x.1:Int),rfl,rfl,SqT.of q4,rfl,?_⟩
  refine ⟨_,rfl,_,_,rfl,rfl,_,rfl,?_⟩
  by_cases hlt:i < x.1
  ·rw [if_pos hlt] at hl1
   refine iteDT (by omega) ?_
   refine ⟨fun σ' H'=>∃ m',m' < (r++[x]).length /\ ∃ (n1:List (List Nat)) (p1:List (Nat × Nat)) (g1:Nat) (v3 v4:Option V),m'=p1.length /\ σ'=[some (.ref q),some (.int (i:Int)),some (.int (g1:Int)),v3,v4] /\ Gk Z H0 H' q wg nA pr nbs tr n1 p1 /\ n1.length=tr.length /\ g1 < tr.length /\ (∀ x∈p1,x.2 < tr.length) /\ (∀ a,(n1.getD a []).length+2*p1.length <= 1000) /\ Gp.leave tr i p1.reverse n1 g1=some (nb',rp'),fun σ' H' z=>z,?_⟩
   refine ⟨_,rfl,q,_,dq,_,_,rfl,hq,T.k_Groups,T.a_Groups_pairs,grf_pairs _ _ _,.inl ⟨rfl,_,SqL.of q1⟩,.inl ⟨pr,_,.ref rl,rfl,rfl,q1,?_,?_⟩⟩
   ·rw [List.map_append];simp
   rw [List.map_append,List.map_cons,List.map_nil,List.dropLast_concat]
   have hG2:=hG1.setP q3
   have q5:upd H1 pr (.lst (rs'.map V.ref)) rl=some (.tup [.int (x.1:Int),.int (x.2:Int)]):=by
    rw [upd_ne (ne_of q4 q1 fun w=>by cases w)]
    exact q4
   refine .inr ⟨rl,_,1,.int (x.2:Int),rfl,rfl,SqT.of q5,rfl,?_⟩
   obtain ⟨dq2,hq2⟩:=hG2.ins
   obtain ⟨a1,ea1⟩:∃ a,nbs[i]?=some a:=⟨_,List.getElem?_eq_getElem (by rw [hG1.len,hn1];exact hi)⟩
   obtain ⟨e1,_⟩:=hG2.each _ a1 ea1
   refine ⟨_,rfl,q,_,dq2,_,_,rfl,hq2,T.k_Groups,T.a_Groups_neighbours,grf_neighbours _ _ _,_,rfl,.inl ⟨nA,_,(i:Int),.ref a1,rfl,rfl,SqL.of hG2.stk,atI_nat (by rw [List.getElem?_map,ea1];rfl),?_⟩⟩
   have hb2:=hb1 i
   rw [List.length_append] at hb2
   simp only [List.length_cons,List.length_nil] at hb2
   refine ⟨.inl ⟨rfl,_,SqL.of e1⟩,_,rfl,a1,_,_,rfl,rfl,e1,by rw [List.length_map];exact small1000' (by omega),?_⟩
   have eap:∀ (c:List Nat) (y:Nat),ordV c++[V.int (y:Int)]=ordV (c++[y]):=fun c y=>by
    show _=List.map (fun (p:Nat)=>V.int (p:Int)) (c++[y])
    rw [List.map_append]
    rfl
   rw [eap]
   have hG3:=hG2.setN ea1 (n1.getD i []++[x.2])
   change Gk Z H0 _ q wg nA pr nbs tr (Gp.put n1 i x.2) r at hG3
   obtain ⟨dq3,hq3⟩:=hG3.ins
   obtain ⟨a2,ea2⟩:∃ a,nbs[x.2]?=some a:=⟨_,List.getElem?_eq_getElem (by rw [hG1.len,hn1];exact hx2)⟩
   obtain ⟨e2,_⟩:=hG3.each _ a2 ea2
   have hb3:=Gp.put_get (nb:=n1) (i:=i) (by omega) x.2 x.2
   have hb4:=hb1 x.2
   rw [List.length_append] at hb4
   simp only [List.length_cons,List.length_nil] at hb4
   have hb5:((Gp.put n1 i x.2).getD x.2 []).length <= 1000:=by
    rw [hb3]
    split
    ·rw [List.length_append];simp only [List.length_cons,List.length_nil];omega
    ·omega
   refine ⟨_,rfl,q,_,dq3,_,_,rfl,hq3,T.k_Groups,T.a_Groups_neighbours,grf_neighbours _ _ _,_,rfl,.inl ⟨nA,_,(x.2:Int),.ref a2,rfl,rfl,SqL.of hG3.stk,atI_nat (by rw [List.getElem?_map,ea2];rfl),?_⟩⟩
   refine ⟨.inl ⟨rfl,_,SqL.of e2⟩,_,rfl,a2,_,_,rfl,rfl,e2,by rw [List.length_map];exact small1000' (by omega),?_⟩
   rw [eap]
   have hG4:=hG3.setN ea2 ((Gp.put n1 i x.2).getD x.2 []++[i])
   change Gk Z H0 _ q wg nA pr nbs tr (Gp.addE n1 i x.2) r at hG4
   obtain ⟨dq4,hq4⟩:=hG4.ins
   refine ⟨_,rfl,q,dq4,_,rfl,hq4,(grf_no _ _ _).2.2,_,rfl,_,rfl,H0,q,wg,nA,pr,nbs,tr,_,r,g1,x.2,rfl,hG4,hg1,hx2,?_⟩
   refine ⟨r.length,by rw [List.length_append];simp,Gp.addE n1 i x.2,r,Gp.gr tr g1 x.2,_,_,rfl,rfl,hG4,by unfold Gp.addE;rw [Gp.put_len,Gp.put_len];exact hn1,?_,fun y hy=>hp1 y (List.mem_append_left _ hy),fun a=>?_,hl1⟩
   ·rcases Gp.gr_is tr g1 x.2 with z | z<;>rw [z]
    ·exact hg1
    ·exact hx2
   ·have:=Gp.add_bnd (nb:=n1) (p:=i) (o:=x.2) (by omega) (by omega) (m:=1000 - 2*(r.length+1)) (fun a=>by have:=hb1 a;rw [List.length_append] at this;simp only [List.length_cons,List.length_nil] at this;omega) a
    omega
  ·rw [if_neg hlt] at hl1
   refine iteDF (by omega) ?_
   refine ⟨_,rfl,q,_,dq,_,_,rfl,hq,T.k_Groups,T.a_Groups_pairs,grf_pairs _ _ _,.inl ⟨rfl,_,SqL.of q1⟩,.inl ⟨pr,_,.ref rl,rfl,rfl,q1,?_,?_⟩⟩
   ·rw [List.map_append];simp
   rw [List.map_append,List.map_cons,List.map_nil,List.dropLast_concat]
   have hG2:=hG1.setP q3
   have q5:upd H1 pr (.lst (rs'.map V.ref)) rl=some (.tup [.int (x.1:Int),.int (x.2:Int)]):=by
    rw [upd_ne (ne_of q4 q1 fun w=>by cases w)]
    exact q4
   obtain ⟨dq2,hq2⟩:=hG2.ins
   refine ⟨_,rfl,q,dq2,_,rfl,hq2,(grf_no _ _ _).2.2,_,rfl,_,rfl,.inr ⟨rl,_,1,.int (x.2:Int),rfl,rfl,SqT.of q5,rfl,?_⟩⟩
   refine ⟨H0,q,wg,nA,pr,nbs,tr,_,r,g1,x.2,rfl,hG2,hg1,hx2,?_⟩
   generalize hg2:Gp.gr tr g1 x.2=g2 at hl1 ⊢
   refine ⟨_,rfl,_,rfl,.inl ⟨rfl,_,rfl,?_⟩⟩
   cases hl1
   by_cases hg:g2=i
   ·rw [if_pos hg] at kQ
    refine iteNSc (by rw [hg]) ?_
    refine kQ _ ?_
    rw [List.reverse_reverse]
    exact hG2
   ·rw [if_neg hg] at kQ
    refine iteNT (fun z=>hg (by have:=V.int.inj z;omega)) ?_
    obtain ⟨rs2,f1,f2⟩:=hG2.prs
    refine ⟨_,rfl,q,_,dq2,_,_,rfl,hq2,T.k_Groups,T.a_Groups_pairs,grf_pairs _ _ _,.inl ⟨rfl,_,SqL.of f1⟩,?_⟩
    refine ⟨_,rfl,.inr ⟨rl,_,0,.int (x.1:Int),rfl,rfl,SqT.of q5,rfl,?_⟩⟩
    refine ⟨_,rfl,(by show 2 <= sizeLine;decide),fun t ht=>⟨pr,_,_,rfl,rfl,upd_get f1 ht,?_,?_⟩⟩
    ·rw [List.length_map,Paired.length f2]
     have:=hb1 0
     rw [List.length_append] at this
     exact small1000' (by omega)
    have s1:=Same.upd (o:=.tup [.int (x.1:Int),.int (g2:Int)]) ht
    have h2:=(hG2.sameH s1).setP (rs':=rs2++[t]) (ps':=r++[(x.1,g2)]) (Paired.snoc' (Paired.imp (fun _ _ z=>s1 _ _ z) f2) upd_same)
    rw [List.map_append] at h2
    refine kQ _ ?_
    rw [List.reverse_cons,List.reverse_reverse]
    exact h2
def sp_Groups_init(Z:Adr):Sp:=fun vs H Q _=>∃ (p dx wg:Addr) (T:List Int),vs=[.ref p,.ref wg] /\ H p=some (.ins Z.cGroups dx []) /\ H wg=some (.lst (T.map V.int)) /\ T.length <= 1000 /\
 ∀ (nA pr:Addr) (nbs:List Addr) (H':Hp),(∀ c o,H c=some o->c≠p->H' c=some o)->H' p=some (.ins Z.cGroups dx (grf wg nA pr))->H' nA=some (.lst (nbs.map V.ref))->nbs.length=T.length->
  (∀ (t:Nat) (a:Addr),nbs[t]?=some a->H' a=some (.lst []) /\ H a=none /\ a≠pr /\ a≠nA)->(∀ (t u:Nat) (a b:Addr),nbs[t]?=some a->nbs[u]?=some b->t≠u->a≠b)->H' pr=some (.lst [])->H nA=none->H pr=none->pr≠nA->Q .non H'
theorem sc_Groups_init:FnScope ["self", "wagons"] ["self", "wagons"] (defScope s_Groups_init):=⟨rfl,rfl,rfl,by decide +kernel,rfl,by decide +kernel,by decide +kernel⟩
theorem M_Groups(T:Tx K mg Z):CtrC P w K mg base CX0 1 "Groups" Z.cGroups ["self", "wagons"] (sp_Groups_init Z):=by
 refine ctrC_of T.c_Groups T.i_Groups fun f fd F=>F.ok sc_Groups_init (fun vs H Q E h=>?_) (fun cdv A outer s H vs Q E hr h=>?_)
 ·obtain ⟨p,dx,wg,T,rfl,_⟩:=h
  rfl
 ·obtain ⟨p,dx,wg,tr,rfl,hp,hw,hm,k⟩:=h
  refine' ⟨_,?hterm,?_⟩
  case hterm=>
   refine' pss_cons ?q1 ?q2
   case q1=>exact ps_fldK (K:=K) (by rfl) (pv 0) (pv 1) rfl
   case' q2=>refine' pss_cons ?q3 ?q4
   case q3=>
    refine' ps_fldK (K:=K) (by rfl) (pv 0) ?q5 rfl
    case' q5=>refine' pe_comp rfl (csc_of (sc:=defScope s_Groups_init) (N:=["self", "wagons"]) (cap:=[none]) (N':=["wagon"]) rfl rfl ⟨ rfl,by decide +kernel,by decide +kernel,by decide +kernel,rfl,by decide +kernel ⟩) ?q6 (fun _ _ _ _=>?q7) (fun _ _ _ _=>pif_nil) (fun _ _ _ _=>?q8)
    case q6=>exact pi_listK (K:=K) (by rfl) (pv 1)
    case q7=>exact pg_name (i:=0) (show List.Nodup (["wagon"]:List Str) from by decide +kernel) (by rfl) (by exact Or.inl rfl)
    case q8=>exact pe_lst pa_nil
   case' q4=>refine' pss_one ?q9
   case' q9=>refine' ps_fldK (K:=K) (by rfl) (pv 0) ?q10 rfl
   case q10=>exact pe_lst pa_nil
  have hwp:wg≠p:=ne_of hw hp fun w=>by cases w
  refine ⟨_,rfl,_,rfl,p,_,dx,_,rfl,hp,T.k_Groups,T.a_Groups_wagons,(by show 0 < 1000;decide),?_⟩
  generalize hH1:upd H p (.ins Z.cGroups dx (putF "wagons" (.ref wg) []))=H1
  have hp1:H1 p=some (.ins Z.cGroups dx (putF "wagons" (.ref wg) [])):=by rw [<- hH1];exact upd_same
  have hw1:H1 wg=some (.lst (tr.map V.int)):=by rw [<- hH1,upd_ne hwp];exact hw
  have oth:∀ c o,H c=some o->c≠p->H1 c=some o:=fun c o e hc=>by rw [<- hH1,upd_ne hc];exact e
  have fre:∀ c,H1 c=none->H c=none:=fun c e=>by
   have hc:c≠p:=fun z=>by rw [z,hp1] at e;cases e
   rw [<- hH1,upd_ne hc] at e
   exact e
  refine ⟨_,rfl,wg,rfl,⟨_,SqL.of hw1⟩,fun sk hsk=>?_⟩
  refine turns_list (K:=K) (a:=wg) (xs:=tr.map V.int) (fun i σ H2=>(∃ v,σ=[v]) /\ Same H1 H2 /\ ∃ sks:List Addr,sks.length=i /\ H2 sk=some (.lst (sks.map V.ref)) /\ (∀ (t:Nat) (a:Addr),sks[t]?=some a->H2 a=some (.lst []) /\ H1 a=none /\ a≠sk) /\ ∀ (t u:Nat) (a b:Addr),sks[t]?=some a->sks[u]?=some b->t≠u->a≠b)
   ⟨⟨_,rfl⟩,Same.upd hsk,[],rfl,upd_same,fun t a e=>by simp at e,fun t u a b e=>by simp at e⟩ (fun i σ H2 _ h=>SqL.of (h.2.1 _ _ hw1)) ?_ ?_
  ·rintro i x σ H2 hx ⟨⟨v,rfl⟩,s2,sks,hl,h1,h2,h3⟩
   have hi:i < tr.length:=by have:=(List.getElem?_eq_some_iff.mp hx).1;rw [List.length_map] at this;exact this
   refine ⟨Nat.zero_le _,fun u hu=>?_⟩
   have esu:sk≠u:=ne_of_none h1 hu
   refine ⟨_,upd_get h1 hu,?_,⟨_,rfl⟩,Same.updN (s2.trans (Same.upd hu)) hsk,sks++[u],by simp [hl],?_,fun t a e=>?_,fun t t' a b e e' ne=>?_⟩
   ·rw [List.length_map,hl]
    exact small1000 (by omega)
   ·rw [upd_same,List.map_append]
    rfl
   ·rcases Thr.snoc_get e with ⟨_,e⟩ | ⟨_,rfl⟩
    ·obtain ⟨z1,z2,z3⟩:=h2 t a e
     exact ⟨by rw [upd_ne z3];exact upd_get z1 hu,z2,z3⟩
    ·exact ⟨by rw [upd_ne esu.symm,upd_same],s2.free hu,esu.symm⟩
   ·rcases Thr.snoc_get e with ⟨_,e1⟩ | ⟨i1,e1⟩<;>rcases Thr.snoc_get e' with ⟨_,e2⟩ | ⟨i2,e2⟩
    ·exact h3 t t' a b e1 e2 ne
    ·rw [e2];exact ne_of_none (h2 t a e1).1 hu
    ·rw [e1];exact (ne_of_none (h2 t' b e2).1 hu).symm
    ·omega
  ·rintro σ H2 ⟨_,s2,sks,hl,h1,h2,h3⟩
   rw [List.length_map] at hl
   have hp2:=s2 _ _ hp1
   refine ⟨_,rfl,p,_,dx,_,rfl,hp2,T.k_Groups,T.a_Groups_neighbours,(by show 1 < 1000;decide),?_⟩
   refine ⟨Nat.zero_le _,fun mv hmv=>?_⟩
   have npm:p≠mv:=ne_of_none upd_same hmv
   have hm2:H2 mv=none:=by rw [upd_ne npm.symm] at hmv;exact hmv
   refine ⟨_,rfl,p,_,dx,_,rfl,by rw [upd_ne npm,upd_same],T.k_Groups,T.a_Groups_pairs,(by show 2 < 1000;decide),?_⟩
   rw [grf_new]
   have nps:p≠sk:=ne_of_none hp1 hsk
   refine k sk mv sks _ (fun c o e hc=>?_) upd_same ?_ hl (fun t a e=>?_) h3 ?_ (fre _ hsk) (fre _ (s2.free hm2)) (ne_of_none h1 hm2).symm
   ·have z:=s2 _ _ (oth c o e hc)
    rw [upd_ne hc,upd_ne (ne_of_none z hm2),upd_ne hc]
    exact z
   ·rw [upd_ne nps.symm,upd_ne (ne_of_none h1 hm2),upd_ne nps.symm]
    exact h1
   ·obtain ⟨z1,z2,z3⟩:=h2 t a e
    have nam:a≠mv:=ne_of_none z1 hm2
    have nap:a≠p:=(ne_of_none hp1 z2).symm
    exact ⟨by rw [upd_ne nap,upd_ne nam,upd_ne nap];exact z1,fre _ z2,nam,z3⟩
   ·rw [upd_ne npm.symm,upd_same]
def fof(nA dA pA:Addr):List (Str × V):=[("neighbours",.ref nA),("depths",.ref dA),("parents",.ref pA)]
theorem fof_neighbours(nA dA pA:Addr):(fof nA dA pA).lookup ("neighbours":Str)=some (.ref nA):=rfl
theorem fof_depths(nA dA pA:Addr):(fof nA dA pA).lookup ("depths":Str)=some (.ref dA):=rfl
theorem fof_parents(nA dA pA:Addr):(fof nA dA pA).lookup ("parents":Str)=some (.ref pA):=rfl
theorem fof_new(nA dA pA:Addr):putF "parents" (.ref pA) (putF "depths" (.ref dA) (putF "neighbours" (.ref nA) []))=fof nA dA pA:=rfl
theorem fof_no(nA dA pA:Addr):(fof nA dA pA).lookup ("grow":Str)=none /\ (fof nA dA pA).lookup ("grow_from":Str)=none /\ (fof nA dA pA).lookup ("path":Str)=none:=⟨rfl,rfl,rfl⟩
structure Fk(Z:Adr)(H0 H:Hp)(q nA dA pA:Addr)(nbs:List Addr)(nb:List (List Nat))(dep par:List Int):Prop where
 ins:∃ dq,H q=some (.ins Z.cForest dq (fof nA dA pA))
 stk:H0 nA=some (.lst (nbs.map V.ref))
 len:nbs.length=nb.length
 each:∀ (t:Nat) (a:Addr),nbs[t]?=some a->H0 a=some (.lst (ordV (nb.getD t [])))
 d:H dA=some (.lst (dep.map V.int))
 p:H pA=some (.lst (par.map V.int))
 q0:H0 q=none
 d0:H0 dA=none
 p0:H0 pA=none
 dp:dA≠pA
 same:Same H0 H
section
variable {H0 H:Hp} {q nA dA pA:Addr} {nbs:List Addr} {nb:List (List Nat)} {dep par:List Int}
theorem Fk.sameH(h:Fk Z H0 H q nA dA pA nbs nb dep par){H':Hp}(e:Same H H'):Fk Z H0 H' q nA dA pA nbs nb dep par:=
 ⟨let ⟨dq,z⟩:=h.ins;⟨dq,e _ _ z⟩,h.stk,h.len,h.each,e _ _ h.d,e _ _ h.p,h.q0,h.d0,h.p0,h.dp,h.same.trans e⟩
theorem Fk.setD(h:Fk Z H0 H q nA dA pA nbs nb dep par)(dep':List Int):Fk Z H0 (upd H dA (.lst (dep'.map V.int))) q nA dA pA nbs nb dep' par:=
 ⟨let ⟨dq,z⟩:=h.ins;⟨dq,by rw [upd_ne (ne_of z h.d fun w=>by cases w)];exact z⟩,h.stk,h.len,h.each,upd_same,by rw [upd_ne h.dp.symm];exact h.p,h.q0,h.d0,h.p0,h.dp,Same.updN h.same h.d0⟩
theorem Fk.setP(h:Fk Z H0 H q nA dA pA nbs nb dep par)(par':List Int):Fk Z H0 (upd H pA (.lst (par'.map V.int))) q nA dA pA nbs nb dep par':=
 ⟨let ⟨dq,z⟩:=h.ins;⟨dq,by rw [upd_ne (ne_of z h.p fun w=>by cases w)];exact z⟩,h.stk,h.len,h.each,by rw [upd_ne h.dp];exact h.d,upd_same,h.q0,h.d0,h.p0,h.dp,Same.updN h.same h.p0⟩
theorem Fk.setX(h:Fk Z H0 H q nA dA pA nbs nb dep par){a:Addr}{xs ys:List V}(ha:H a=some (.lst xs))(h0:H0 a=none)(h1:a≠dA)(h2:a≠pA):Fk Z H0 (upd H a (.lst ys)) q nA dA pA nbs nb dep par:=
 ⟨let ⟨dq,z⟩:=h.ins;⟨dq,by rw [upd_ne (ne_of z ha fun w=>by cases w)];exact z⟩,h.stk,h.len,h.each,by rw [upd_ne h1.symm];exact h.d,by rw [upd_ne h2.symm];exact h.p,h.q0,h.d0,h.p0,h.dp,Same.updN h.same h0⟩
end
theorem reps(n:Nat)(z:Int):(List.replicate n [V.int z]).flatten=(List.replicate n z).map V.int:=by
 rw [List.map_replicate]
 induction n with
 | zero=>rfl
 | succ n ih=>rw [List.replicate_succ,List.flatten_cons,ih,List.replicate_succ];rfl
def sp_Forest_init(Z:Adr):Sp:=fun vs H Q _=>∃ (p dx nA:Addr) (xs:List V),vs=[.ref p,.ref nA] /\ H p=some (.ins Z.cForest dx []) /\ H nA=some (.lst xs) /\ xs.length <= 1000 /\
 ∀ (dA pA:Addr) (H':Hp),(∀ c o,H c=some o->c≠p->H' c=some o)->H' p=some (.ins Z.cForest dx (fof nA dA pA))->H' dA=some (.lst ((List.replicate xs.length (-1:Int)).map V.int))->H' pA=some (.lst ((List.replicate xs.length (-1:Int)).map V.int))->H dA=none->H pA=none->dA≠pA->Q .non H'
theorem sc_Forest_init:FnScope ["self", "neighbours"] ["self", "neighbours"] (defScope s_Forest_init):=⟨rfl,rfl,rfl,by decide +kernel,rfl,by decide +kernel,by decide +kernel⟩
theorem M_Forest(T:Tx K mg Z):CtrC P w K mg base CX0 1 "Forest" Z.cForest ["self", "neighbours"] (sp_Forest_init Z):=by
 refine ctrC_of T.c_Forest T.i_Forest fun f fd F=>F.ok sc_Forest_init (fun vs H Q E h=>?_) (fun cdv A outer s H vs Q E hr h=>?_)
 ·obtain ⟨p,dx,nA,xs,rfl,_⟩:=h
  rfl
 ·obtain ⟨p,dx,nA,xs,rfl,hp,hn,hm,k⟩:=h
  refine' ⟨_,?hterm,?_⟩
  case hterm=>
   refine' pss_cons ?q1 ?q2
   case q1=>exact ps_fldK (K:=K) (by rfl) (pv 0) (pv 1) rfl
   case' q2=>refine' pss_cons ?q3 ?q4
   case q3=>
    refine' ps_fldK (K:=K) (by rfl) (pv 0) ?q5 rfl
    case' q5=>refine' pe_op op_mulU ?q6 ?q7
    case q6=>
     refine' pe_lst ?q8
     case q8=>
      refine' pa_cons ?q9 pa_nil
      case q9=>exact pe_un un_neg pe_int
    case q7=>
     refine' pe_callB (callK_len (K:=K) (by rfl)) (by rfl) T.n_len b_len ?q10
     case q10=>exact pa_cons (pv 1) pa_nil
   case' q4=>refine' pss_one ?q11
   case' q11=>refine' ps_fldK (K:=K) (by rfl) (pv 0) ?q12 rfl
   case' q12=>refine' pe_op op_mulU ?q13 ?q14
   case q13=>
    refine' pe_lst ?q15
    case' q15=>refine' pa_cons ?q16 pa_nil
    case q16=>exact pe_un un_neg pe_int
   case' q14=>refine' pe_callB (callK_len (K:=K) (by rfl)) (by rfl) T.n_len b_len ?q17
   case q17=>exact pa_cons (pv 1) pa_nil
  have hnp:nA≠p:=ne_of hn hp fun w=>by cases w
  refine ⟨_,rfl,_,rfl,p,_,dx,_,rfl,hp,T.k_Forest,T.a_Forest_neighbours,(by show 0 < 1000;decide),?_⟩
  generalize hH1:upd H p (.ins Z.cForest dx (putF "neighbours" (.ref nA) []))=H1
  have hp1:H1 p=some (.ins Z.cForest dx (putF "neighbours" (.ref nA) [])):=by rw [<- hH1];exact upd_same
  have hn1:H1 nA=some (.lst xs):=by rw [<- hH1,upd_ne hnp];exact hn
  have oth:∀ c o,H c=some o->c≠p->H1 c=some o:=fun c o e hc=>by rw [<- hH1,upd_ne hc];exact e
  have fre:∀ c,H1 c=none->H c=none:=fun c e=>by
   have hc:c≠p:=fun z=>by rw [z,hp1] at e;cases e
   rw [<- hH1,upd_ne hc] at e
   exact e
  have hnat:((xs.length:Nat):Int).toNat=xs.length:=Int.toNat_natCast _
  refine ⟨1,rfl,(by show 1 <= sizeLine;decide),fun e he=>?_⟩
  refine ⟨_,rfl,_,_,rfl,.inl ⟨_,SqL.of (upd_get hn1 he),rfl⟩,.inr ⟨e,_,_,rfl,rfl,upd_same,by omega,by omega,Nat.le_of_lt (small1000' (by show 1*_ <= _;omega)),fun l hl=>?_⟩⟩
  rw [hnat,reps]
  have s1:=(Same.upd (o:=.lst [.int (-1)]) he).trans (Same.upd (o:=.lst ((List.replicate xs.length (-1:Int)).map V.int)) hl)
  have hl1:=(Same.upd (o:=.lst [.int (-1)]) he).free hl
  refine ⟨_,rfl,p,_,dx,_,rfl,s1 _ _ hp1,T.k_Forest,T.a_Forest_depths,(by show 1 < 1000;decide),?_⟩
  generalize hH2:upd (upd H1 e (.lst [.int (-1)])) l (.lst ((List.replicate xs.length (-1:Int)).map V.int))=H2
  change upd (upd H1 e (.lst [.int (-1)])) l _=H2 at hH2
  have s2:Same H1 H2:=hH2 ▸ s1
  have hl2:H2 l=some (.lst ((List.replicate xs.length (-1:Int)).map V.int)):=by rw [<- hH2];exact upd_same
  have npl:l≠p:=(ne_of_none hp1 hl1).symm
  have hn2:upd H2 p (.ins Z.cForest dx (putF "depths" (.ref l) (putF "neighbours" (.ref nA) []))) nA=some (.lst xs):=by rw [upd_ne hnp];exact s2 _ _ hn1
  refine ⟨1,rfl,(by show 1 <= sizeLine;decide),fun e' he'=>?_⟩
  refine ⟨_,rfl,_,_,rfl,.inl ⟨_,SqL.of (upd_get hn2 he'),rfl⟩,.inr ⟨e',_,_,rfl,rfl,upd_same,by omega,by omega,Nat.le_of_lt (small1000' (by show 1*_ <= _;omega)),fun l' hl'=>?_⟩⟩
  rw [hnat,reps]
  have s3:=(Same.upd (o:=.lst [.int (-1)]) he').trans (Same.upd (o:=.lst ((List.replicate xs.length (-1:Int)).map V.int)) hl')
  have hl3:=(Same.upd (o:=.lst [.int (-1)]) he').free hl'
  have npl':l'≠p:=fun z=>by rw [z,upd_same] at hl3;cases hl3
  have hl4:H2 l'=none:=by rw [upd_ne npl'] at hl3;exact hl3
  refine ⟨_,rfl,p,_,dx,_,rfl,s3 _ _ upd_same,T.k_Forest,T.a_Forest_parents,(by show 2 < 1000;decide),?_⟩
  rw [fof_new]
  refine k l l' _ (fun c o z hc=>?_) upd_same ?_ ?_ (fre _ hl1) (fre _ (s2.free hl4)) (ne_of_none hl2 hl4)
  ·rw [upd_ne hc]
   refine s3 _ _ ?_
   rw [upd_ne hc]
   exact s2 _ _ (oth c o z hc)
  ·rw [upd_ne npl]
   refine s3 _ _ ?_
   rw [upd_ne npl]
   exact hl2
  ·rw [upd_ne npl',upd_same]
def sp_is_number:Sp:=fun vs H Q _=>∃ i,vs=[.int i] /\ Q (.bl true) H
theorem sc_is_number:FnScope ["value"] ["value"] (defScope s_is_number):=⟨rfl,rfl,rfl,by decide +kernel,rfl,by decide +kernel,by decide +kernel⟩
theorem C_is_number(T:Tx K mg Z):Ctr P w K mg base CX0 1 "is_number" ["value"] sp_is_number:=by
 refine ctr_of T.is_number fun f fd F=>F.ok sc_is_number (fun vs H Q E h=>?_) (fun cdv A outer s H vs Q E hr h=>?_)
 ·obtain ⟨i,rfl,_⟩:=h
  rfl
 ·obtain ⟨i,rfl,q⟩:=h
  refine' ⟨_,?hterm,?_⟩
  case hterm=>
   refine' pss_one ?q1
   case' q1=>refine' ps_ret ?q2
   case' q2=>refine' pe_and ?q3 ?q4
   case q3=>
    refine' pe_callB (callK_isinstance (K:=K) (by rfl)) (by rfl) T.n_isinstance b_isinstance ?q5
    case' q5=>refine' pa_cons (pv 0) ?q6
    case' q6=>refine' pa_cons ?q7 pa_nil
    case q7=>exact pe_tyN rfl T.n_int b_int
   case' q4=>refine' pe_one ?q8
   case q8=>
    refine' pe_not ?q9
    case' q9=>refine' pe_callB (callK_isinstance (K:=K) (by rfl)) (by rfl) T.n_isinstance b_isinstance ?q10
    case' q10=>refine' pa_cons (pv 0) ?q11
    case' q11=>refine' pa_cons ?q12 pa_nil
    case q12=>exact pe_tyN rfl T.n_bool b_bool
  refine ⟨_,rfl,_,_,_,_,_,rfl,rfl,ty_inj,.int i,kit_same,_,rfl,iteT ?_⟩
  refine ⟨_,rfl,_,_,_,_,_,rfl,rfl,ty_inj,.int i,kit_int_bool,_,rfl,?_⟩
  exact q
def sp_has_two_alike(K:PySem.W.Frag):Sp:=fun vs H Q _=>∃ (a:Addr) (ns:List Int),vs=[.ref a] /\ SqL K H a (ns.map V.int) /\ ns.length < 200 /\ ∀ H',Same H H'->Q (.bl (!decide ns.Nodup)) H'
theorem sc_has_two_alike:FnScope ["wagons", "in_order"] ["wagons"] (defScope s_has_two_alike):=⟨rfl,rfl,rfl,by decide +kernel,rfl,by decide +kernel,by decide +kernel⟩
theorem C_has_two_alike(T:Tx K mg Z):Ctr P w K mg base CX0 1 "has_two_alike" ["wagons"] (sp_has_two_alike K):=by
 refine ctr_of T.has_two_alike fun f fd F=>F.ok sc_has_two_alike (fun vs H Q E h=>?_) (fun cdv A outer s H vs Q E hr h=>?_)
 ·obtain ⟨a,ns,rfl,_⟩:=h
  rfl
 ·obtain ⟨a,ns,rfl,hS,hz,k⟩:=h
  refine' ⟨_,?hterm,?_⟩
  case hterm=>
   refine' pss_cons ?q1 ?q2
   case q1=>
    refine' ps_set (i:=1) sc_has_two_alike.nd rfl (Or.inl rfl) ?q3
    case' q3=>refine' pe_callB (callK_sortedW (K:=K) (by rfl)) (by rfl) T.n_sorted b_sorted ?q4
    case q4=>exact pa_cons (pv 0) pa_nil
   case' q2=>refine' pss_one ?q5
   case' q5=>refine' ps_ret ?q6
   case' q6=>refine' pe_callB (callK_any (K:=K) (by rfl) (by rfl)) (by rfl) T.n_any b_any ?q7
   case q7=>
    refine' pa_cons ?q8 pa_nil
    case q8=>
     refine' pe_comp rfl (csc_of (sc:=defScope s_has_two_alike) (N:=["wagons", "in_order"]) (cap:=[none,none]) (N':=["less", "greater"]) rfl rfl ⟨ rfl,by decide +kernel,by decide +kernel,by decide +kernel,rfl,by decide +kernel ⟩) ?q9 (fun _ _ _ _=>?q10) (fun _ _ _ _=>pif_nil) (fun _ _ _ _=>?q11)
     case q9=>
      refine' pi_zipK (K:=K) (by rfl) rfl T.n_zip ?q12
      case' q12=>refine' pa_cons (pv 1) ?q13
      case' q13=>refine' pa_cons ?q14 pa_nil
      case' q14=>refine' pe_slice (sl_K (K:=K) (by rfl)) (pv 1) ?q15 po_none
      case q15=>exact po_some pe_int
     case q10=>
      refine' pg_tupK (K:=K) (n:=2) (by rfl) rfl ?q16
      case' q16=>refine' pgs_cons ?q17 ?q18
      case q17=>exact pg_name (i:=0) (show List.Nodup (["less", "greater"]:List Str) from by decide +kernel) (by rfl) (by exact Or.inl rfl)
      case' q18=>refine' pgs_cons ?q19 pgs_nil
      case q19=>exact pg_name (i:=1) (show List.Nodup (["less", "greater"]:List Str) from by decide +kernel) (by rfl) (by exact Or.inl rfl)
     case q11=>exact pe_cmpR (op_eqK (K:=K) (by rfl) (by exact hr.units)) (pv 0) (pv 1) (nomark _)
  refine ⟨_,rfl,a,ns,rfl,hS,hz,fun l ns' hl hp hs=>?_⟩
  refine ⟨_,rfl,_,rfl,_,rfl,l,_,rfl,SqL.of upd_same,fun q hq=>?_⟩
  have elq:l≠q:=ne_of_none upd_same hq
  have ecut:cutV (ns'.map V.int) (some 1) none=(ns'.drop 1).map V.int:=by rw [show (1:Int)=((1:Nat):Int) from rfl,cutV_from,List.map_drop]
  rw [ecut]
  refine ⟨l,q,rfl,⟨_,SqL.of (upd_get upd_same hq)⟩,⟨_,SqL.of upd_same⟩,fun p hp'=>?_⟩
  have s0:Same H (upd (upd (upd H l (.lst (ns'.map V.int))) q (.lst ((ns'.drop 1).map V.int))) p (.lst [])):=(Same.upd hl).trans ((Same.upd hq).trans (Same.upd hp'))
  have elp:l≠p:=ne_of_none (upd_get upd_same hq) hp'
  have eqp:q≠p:=ne_of_none upd_same hp'
  have hH1:H p=none:=((Same.upd (o:=.lst (ns'.map V.int)) hl).trans (Same.upd (o:=.lst ((ns'.drop 1).map V.int)) hq)).free hp'
  refine turns_zip (K:=K) (xs:=ns'.map V.int) (ys:=(ns'.drop 1).map V.int)
   (fun i σ H2=>(∃ a b,σ=[a,b]) /\ Same H H2 /\ H2 l=some (.lst (ns'.map V.int)) /\ H2 q=some (.lst ((ns'.drop 1).map V.int)) /\ H2 p=some (.lst (((adj ns').take i).map V.bl)))
   ⟨⟨_,_,rfl⟩,s0,by rw [upd_ne elp,upd_ne elq,upd_same],by rw [upd_ne eqp,upd_same],upd_same⟩ (fun i σ H2 h=>⟨SqL.of h.2.2.1,SqL.of h.2.2.2.1⟩) ?_ ?_
  ·rintro i x y t σ H2 hx hy ⟨⟨a1,b1,rfl⟩,s2,h1,h2,h3⟩ ht
   obtain ⟨z,ez,rfl⟩:=getMap hx
   obtain ⟨z',ez',rfl⟩:=getMap hy
   refine ⟨t,_,rfl,SqT.of upd_same,rfl,_,_,rfl,_,_,rfl,rfl,?_⟩
   refine ⟨_,rfl,_,rfl,.inl ⟨rfl,?_⟩⟩
   have e3:upd H2 t (.tup [.int z,.int z']) p=some (.lst (((adj ns').take i).map V.bl)):=upd_get h3 ht
   refine ⟨_,e3,?_,⟨_,_,rfl⟩,?_,?_,?_,?_⟩
   ·rw [List.length_map]
    have:=adj_len ns'
    have h64:ns'.length < 200:=by rw [hp.length_eq];exact hz
    have:=List.length_take (i:=i) (l:=adj ns')
    exact small1000 (by omega)
   ·intro b o e
    have:b≠p:=ne_of_none e hH1
    rw [upd_ne this,upd_get (s2 b o e) ht]
   ·rw [upd_ne elp];exact upd_get h1 ht
   ·rw [upd_ne eqp];exact upd_get h2 ht
   ·rw [upd_same,adj_take ez ez',List.map_append,decV]
    rfl
  ·rintro σ H2 ⟨_,s2,_,_,h3⟩
   refine ⟨p,adj ns',rfl,SqL.of ?_,?_⟩
   ·rw [h3,List.take_of_length_le]
    rw [adj_len,List.length_map,List.length_map,List.length_drop]
    exact Nat.le_refl _
   ·rw [adj_nodup hs,show decide ns'.Nodup=decide ns.Nodup from decide_eq_decide.mpr hp.nodup_iff]
    exact k H2 s2
def sp_checked_train:Sp:=fun vs H Q _=>∃ (a:Addr) (ns:List Int),vs=[.ref a] /\ H a=some (.lst (ns.map V.int)) /\ ns.length < 200 /\ ns.Nodup /\ ∀ p H',Same H H'->H p=none->H' p=some (.lst (ns.map V.int))->Q (.ref p) H'
theorem sc_checked_train:FnScope ["train", "held", "wagon", "wagons"] ["train"] (defScope s_checked_train):=⟨rfl,rfl,rfl,by decide +kernel,rfl,by decide +kernel,by decide +kernel⟩
theorem C_checked_train(T:Tx K mg Z):Ctr P w K mg base CX0 3 "checked_train" ["train"] sp_checked_train:=by
 refine ctr_of T.checked_train fun f fd F=>F.ok sc_checked_train (fun vs H Q E h=>?_) (fun cdv A outer s H vs Q E hr h=>?_)
 ·obtain ⟨a,ns,rfl,_⟩:=h
  rfl
 ·obtain ⟨a,ns,rfl,ha,hz,hnd,k⟩:=h
  refine' ⟨_,?hterm,?_⟩
  case hterm=>
   refine' pss_cons ?q1 ?q2
   case q1=>
    refine' ps_if ?q3 ?q4 pss_nil
    case q3=>
     refine' pt_not ?q5
     case' q5=>refine' pt_truK (K:=K) (by rfl) ?q6 (fun _=>rfl)
     case' q6=>refine' pe_callB (callK_isinstance (K:=K) (by rfl)) (by rfl) T.n_isinstance b_isinstance ?q7
     case q7=>
      refine' pa_cons (pv 0) ?q8
      case q8=>
       refine' pa_cons ?q9 pa_nil
       case q9=>exact pe_tyN rfl T.n_list b_list
    case' q4=>refine' pss_one ?q10
    case q10=>exact ps_never
   case' q2=>refine' pss_cons ?q11 ?q12
   case q11=>
    refine' ps_set (i:=1) sc_checked_train.nd rfl (Or.inl rfl) ?q13
    case' q13=>refine' pe_op (op_addK (K:=K) (by rfl)) ?q14 (pv 0)
    case q14=>exact pe_lst pa_nil
   case' q12=>refine' pss_cons ?q15 ?q16
   case q15=>
    refine' ps_for HP rfl ?q17 ?q18 ?q19
    case q17=>exact pi_listK (K:=K) (by rfl) (pv 1)
    case q18=>exact pg_name (i:=2) sc_checked_train.nd (by rfl) (by exact Or.inl rfl)
    case' q19=>refine' pss_one ?q20
    case' q20=>refine' ps_if ?q21 ?q22 pss_nil
    case q21=>
     refine' pt_not ?q23
     case' q23=>refine' pt_truK (K:=K) (by rfl) ?q24 (fun _=>rfl)
     case' q24=>refine' pe_callC (C_is_number T) (hr.mono (by decide)) rfl ?q25
     case q25=>exact pa_cons (pv 2) pa_nil
    case' q22=>refine' pss_one ?q26
    case q26=>exact ps_never
   case' q16=>refine' pss_cons ?q27 ?q28
   case q27=>
    refine' ps_setComp (i:=3) sc_checked_train.nd rfl rfl rfl (csc_of (sc:=defScope s_checked_train) (N:=["train", "held", "wagon", "wagons"]) (cap:=[none]) (N':=["wagon"]) rfl rfl ⟨ rfl,by decide +kernel,by decide +kernel,by decide +kernel,rfl,by decide +kernel ⟩) ?q29 (fun _ _ _ _=>?q30) (fun _ _ _ _=>pif_nil) (fun _ _ _ _=>?q31)
    case q29=>exact pi_listK (K:=K) (by rfl) (pv 1)
    case q30=>exact pg_name (i:=0) (show List.Nodup (["wagon"]:List Str) from by decide +kernel) (by rfl) (by exact Or.inl rfl)
    case q31=>
     refine' pe_callTy call_int1 (by rfl) T.n_int b_int ?q32
     case q32=>exact pa_cons (pv 0) pa_nil
   case' q28=>refine' pss_cons ?q33 ?q34
   case q33=>
    refine' ps_if ?q35 ?q36 pss_nil
    case q35=>
     refine' pt_truK (K:=K) (by rfl) ?q37 (fun _=>rfl)
     case' q37=>refine' pe_callC (C_has_two_alike T) (hr.mono (by decide)) rfl ?q38
     case q38=>exact pa_cons (pv 3) pa_nil
    case' q36=>refine' pss_one ?q39
    case q39=>exact ps_never
   case' q34=>refine' pss_one ?q40
   case q40=>exact ps_ret (pv 3)
  have hz1:ns.length <= 1000:=by omega
  refine ⟨_,rfl,_,_,_,_,_,rfl,rfl,ty_inj,.lst ha,kit_same,_,rfl,iteF ?_⟩
  refine ⟨Nat.zero_le _,fun e he=>⟨_,rfl,.inr (.inl ⟨e,a,[],ns.map V.int,rfl,rfl,upd_same,upd_get ha he,?_,fun h hh=>?_⟩)⟩⟩
  ·rw [List.length_nil,List.length_map,Nat.zero_add]
   exact Nat.le_of_lt (small1000 hz1)
  have sh:Same H (upd (upd H e (.lst [])) h (.lst (ns.map V.int))):=(Same.upd he).trans (Same.upd hh)
  refine ⟨_,rfl,h,rfl,⟨_,SqL.of upd_same⟩,for_list (K:=K) (a:=h) (xs:=ns.map V.int) (fun i σ H2=>(∃ v,σ=[some (.ref a),some (.ref h),v,none]) /\ H2=upd (upd H e (.lst [])) h (.lst (ns.map V.int)))
   ⟨⟨_,rfl⟩,rfl⟩ (fun i σ H2 _ ⟨_,z⟩=>by rw [z];exact SqL.of upd_same) ?_ ?_⟩
  ·rintro i x σ H2 hx ⟨⟨v,rfl⟩,rfl⟩
   obtain ⟨z,_,rfl⟩:=getMap hx
   refine ⟨_,rfl,z,rfl,_,rfl,iteF ?_⟩
   exact ⟨⟨_,rfl⟩,rfl⟩
  rintro σ H2 ⟨⟨v,rfl⟩,rfl⟩
  refine ⟨_,rfl,h,rfl,⟨_,SqL.of upd_same⟩,fun p hp=>?_⟩
  have ehp:h≠p:=ne_of_none upd_same hp
  have hHp:H p=none:=sh.free hp
  refine turns_list (K:=K) (a:=h) (xs:=ns.map V.int) (fun i σ H2=>(∃ v,σ=[v]) /\ Same H H2 /\ H2 h=some (.lst (ns.map V.int)) /\ H2 p=some (.lst ((ns.take i).map V.int)))
   ⟨⟨_,rfl⟩,sh.trans (Same.upd hp),upd_get upd_same hp,upd_same⟩ (fun i σ H2 _ h=>SqL.of h.2.2.1) ?_ ?_
  ·rintro i x σ H2 hx ⟨⟨v,rfl⟩,s2,h1,h2⟩
   obtain ⟨z,ez,rfl⟩:=getMap hx
   refine ⟨_,rfl,.inl ⟨z,rfl,_,h2,?_,⟨_,rfl⟩,?_,?_,?_⟩⟩
   ·rw [List.length_map,List.length_take]
    exact small1000 (by omega)
   ·intro b o e
    rw [upd_ne (ne_of_none e hHp)]
    exact s2 b o e
   ·rw [upd_ne ehp];exact h1
   ·rw [upd_same,take_snoc ez,List.map_append]
    rfl
  rintro σ H2 ⟨_,s2,h1,h2⟩
  rw [List.length_map,List.take_length] at h2
  refine ⟨_,rfl,p,ns,rfl,SqL.of h2,hz,fun H3 s3=>⟨_,rfl,?_⟩⟩
  rw [decide_eq_true hnd]
  refine iteF ?_
  exact ⟨_,rfl,k p H3 (s2.trans s3) hHp (s3 _ _ h2)⟩
theorem ordV_sn(c:List Nat)(y:Nat):ordV c++[V.int (y:Int)]=ordV (c++[y]):=by
 show _=List.map (fun (p:Nat)=>V.int (p:Int)) (c++[y])
 rw [List.map_append]
 rfl
def rankL(T:List Int)(ord:List Nat):List Nat:=(List.range T.length).map fun p=>ord.idxOf p
def sp_ranks(Z:Adr):Sp:=fun vs H Q _=>∃ (a:Addr) (T:List Int),vs=[.ref a] /\ H a=some (.lst (T.map V.int)) /\ T.length < 200 /\ TabH Z H /\ ∀ (l:Addr) (H':Hp) (ord:List Nat),Same H H'->H l=none->Rank T ord->H' l=some (.lst (ordV (rankL T ord)))->Q (.ref l) H'
theorem sc_ranks:FnScope ["wagons", "ranked", "rank", "place"] ["wagons"] (defScope s_ranks):=⟨rfl,rfl,rfl,by decide +kernel,rfl,by decide +kernel,by decide +kernel⟩
theorem C_ranks(T:Tx K mg Z):Ctr P w K mg base CX0 4 "ranks" ["wagons"] (sp_ranks Z):=by
 refine ctr_of T.ranks fun f fd F=>F.ok sc_ranks (fun vs H Q E h=>?_) (fun cdv A outer s H vs Q E hr h=>?_)
 ·obtain ⟨a,T,rfl,_⟩:=h
  rfl
 ·obtain ⟨a,tr,rfl,ha,hz,hTab,kQ⟩:=h
  refine' ⟨_,?hterm,?_⟩
  case hterm=>
   refine' pss_cons ?q1 ?q2
   case q1=>
    refine' ps_set (i:=1) sc_ranks.nd rfl (Or.inl rfl) ?q3
    case' q3=>refine' pe_op op_mulU ?q4 ?q5
    case q4=>
     refine' pe_lst ?q6
     case q6=>exact pa_cons pe_int pa_nil
    case' q5=>refine' pe_callB (callK_len (K:=K) (by rfl)) (by rfl) T.n_len b_len ?q7
    case q7=>exact pa_cons (pv 0) pa_nil
   case' q2=>refine' pss_cons ?q8 ?q9
   case q8=>
    refine' ps_for HP rfl ?q10 ?q11 ?q12
    case q10=>
     refine' pi_enumK (K:=K) (by rfl) rfl T.n_enumerate ?q13
     case' q13=>refine' pa_cons ?q14 pa_nil
     case' q14=>refine' pe_callC (C_places_in_order T) (hr.mono (by decide)) rfl ?q15
     case q15=>exact pa_cons (pv 0) pa_nil
    case q11=>
     refine' pg_tupK (K:=K) (n:=2) (by rfl) rfl ?q16
     case' q16=>refine' pgs_cons ?q17 ?q18
     case q17=>exact pg_name (i:=2) sc_ranks.nd (by rfl) (by exact Or.inl rfl)
     case' q18=>refine' pgs_cons ?q19 pgs_nil
     case q19=>exact pg_name (i:=3) sc_ranks.nd (by rfl) (by exact Or.inl rfl)
    case' q12=>refine' pss_one ?q20
    case' q20=>refine' ps_asg (pv 2) ?q21
    case q21=>exact pg_sub (pv 1) (pv 3) set_list
   case' q9=>refine' pss_one ?q22
   case q22=>exact ps_ret (pv 1)
  refine ⟨(by show 1 <= sizeLine;decide),fun e he=>?_⟩
  refine ⟨_,rfl,_,_,rfl,.inl ⟨_,SqL.of (upd_get ha he),rfl⟩,.inr ⟨e,_,_,rfl,rfl,upd_same,by omega,by rw [List.length_map];omega,?_,fun l hl=>?_⟩⟩
  ·rw [List.length_map]
   exact Nat.le_of_lt (small1000' (by show 1*_ <= _;omega))
  have hnat:((tr.map V.int).length:Int).toNat=tr.length:=by rw [List.length_map];exact Int.toNat_natCast _
  rw [hnat,reps]
  have s1:=(Same.upd (o:=.lst [.int 0]) he).trans (Same.upd (o:=.lst ((List.replicate tr.length (0:Int)).map V.int)) hl)
  have hHl:H l=none:=(Same.upd (o:=.lst [.int 0]) he).free hl
  have hl1:upd (upd H e (.lst [.int 0])) l (.lst ((List.replicate tr.length (0:Int)).map V.int)) l=some (.lst ((List.replicate tr.length (0:Int)).map V.int)):=upd_same
  generalize hH1:upd (upd H e (.lst [.int 0])) l (.lst ((List.replicate tr.length (0:Int)).map V.int))=H1 at s1 hl1
  refine ⟨_,rfl,a,tr,rfl,s1 _ _ ha,by omega,hTab.same s1,fun lv H2 ord s2 f2 hR h2=>?_⟩
  have s12:=s1.trans s2
  have hO:=hR.ord
  have ol:ord.length=tr.length:=by rw [hR.perm.length_eq,List.length_range]
  refine ⟨lv,rfl,⟨_,SqL.of h2⟩,?_⟩
  refine for_enum (K:=K) (a:=lv) (xs:=ordV ord) (fun i σ H3=>∃ (L:List Int) (v2 v3:Option V),σ=[some (.ref a),some (.ref l),v2,v3] /\ Same H H3 /\ H3 lv=some (.lst (ordV ord)) /\ H3 l=some (.lst (L.map V.int)) /\ L.length=tr.length /\ ∀ (j p:Nat),j < i->ord[j]?=some p->L[p]?=some (j:Int))
   ⟨_,none,none,rfl,s12,h2,s2 _ _ hl1,List.length_replicate,fun j p hj=>absurd hj (Nat.not_lt_zero _)⟩ (fun i σ H3 _ ⟨L,v2,v3,z1,z2,z3,_⟩=>SqL.of z3) ?_ ?_
  ·rintro i x t σ H3 hx ⟨L,v2,v3,rfl,s3,h3,h4,hL,hd⟩ ht
   obtain ⟨p,ep,rfl⟩:=getMap hx
   have hp:=hO.lt ep
   have st:=Same.upd (o:=.tup [.int (i:Int),.int (p:Int)]) ht
   have nll:lv≠l:=fun z=>by
    rw [z] at f2
    rw [f2] at hl1
    cases hl1
   refine ⟨t,_,rfl,SqT.of upd_same,rfl,_,_,rfl,_,_,rfl,rfl,?_⟩
   refine ⟨_,rfl,_,rfl,_,rfl,l,_,(p:Int),p,rfl,rfl,st _ _ h4,ixN_nat (by rw [List.length_map,hL];exact hp),?_⟩
   refine ⟨L.set p (i:Int),_,_,rfl,Same.updN (s3.trans st) hHl,by rw [upd_ne nll];exact st _ _ h3,by rw [upd_same,List.map_set],by rw [List.length_set];exact hL,fun j r hj er=>?_⟩
   rcases Nat.lt_or_ge j i with c | c
   ·have hne:p≠r:=fun z=>by
     rw [z] at ep
     have:=hO.idx ep
     have:=hO.idx er
     omega
    rw [List.getElem?_set_ne hne]
    exact hd j r c er
   ·have:j=i:=by omega
    subst this
    have:p=r:=Option.some.inj (ep.symm.trans er)
    subst this
    rw [List.getElem?_set_self (by rw [hL];exact hp)]
  ·rintro σ H3 ⟨L,v2,v3,rfl,s3,h3,h4,hL,hd⟩
   refine ⟨_,rfl,kQ l H3 ord s3 hHl hR ?_⟩
   rw [h4,nats_ints]
   congr 2
   congr 1
   refine List.ext_getElem? fun p=>?_
   unfold rankL
   rw [List.getElem?_map,List.getElem?_map]
   by_cases hp:p < tr.length
   ·rw [List.getElem?_range hp]
    refine hd _ p ?_ (hO.at_ hp)
    rw [List.length_map]
    exact List.idxOf_lt_length_iff.mpr ((hO.mem p).mpr hp)
   ·rw [List.getElem?_eq_none_iff.mpr (by omega),List.getElem?_eq_none_iff.mpr (by rw [List.length_range];omega)]
    rfl
def behindL(R1 R2:List Nat):List Nat:=R1++R2.map fun r=>r+R1.length
def sp_behind(Z:Adr):Sp:=fun vs H Q _=>∃ (a b:Addr) (A B:List Int),vs=[.ref a,.ref b] /\ H a=some (.lst (A.map V.int)) /\ H b=some (.lst (B.map V.int)) /\ A.Nodup /\ B.Nodup /\ A.length < 100 /\ B.length < 100 /\ TabH Z H /\
 ∀ (l:Addr) (H':Hp) (o1 o2:List Nat),Same H H'->H l=none->Rank A o1->Rank B o2->H' l=some (.lst (ordV (behindL (rankL A o1) (rankL B o2))))->Q (.ref l) H'
theorem sc_behind:FnScope ["one", "other", "ahead"] ["one", "other"] (defScope s_behind):=⟨rfl,rfl,rfl,by decide +kernel,rfl,by decide +kernel,by decide +kernel⟩
theorem C_behind(T:Tx K mg Z):Ctr P w K mg base CX0 5 "behind" ["one", "other"] (sp_behind Z):=by
 refine ctr_of T.behind fun f fd F=>F.ok sc_behind (fun vs H Q E h=>?_) (fun cdv A outer s H vs Q E hr h=>?_)
 ·obtain ⟨a,b,A,B,rfl,_⟩:=h
  rfl
 ·obtain ⟨a,b,TA,TB,rfl,ha,hb,na,nb,la,lb,hTab,kQ⟩:=h
  refine' ⟨_,?hterm,?_⟩
  case hterm=>
   refine' pss_cons ?q1 ?q2
   case q1=>
    refine' ps_set (i:=2) sc_behind.nd rfl (Or.inr rfl) ?q3
    case' q3=>refine' pe_callC (C_ranks T) (hr.mono (by decide)) rfl ?q4
    case' q4=>refine' pa_cons ?q5 pa_nil
    case' q5=>refine' pe_callC (C_checked_train T) (hr.mono (by decide)) rfl ?q6
    case q6=>exact pa_cons (pv 0) pa_nil
   case' q2=>refine' pss_one ?q7
   case' q7=>refine' ps_ret ?q8
   case' q8=>refine' pe_op (op_addK (K:=K) (by rfl)) (pv 2) ?q9
   case' q9=>refine' pe_comp rfl (csc_of (sc:=defScope s_behind) (N:=["one", "other", "ahead"]) (cap:=[none,some 2]) (N':=["rank", "ahead"]) rfl rfl ⟨ rfl,by decide +kernel,by decide +kernel,by decide +kernel,rfl,by decide +kernel ⟩) ?q10 (fun _ _ _ _=>?q11) (fun _ _ _ _=>pif_nil) (fun _ _ _ _=>?q12)
   case q10=>
    refine' pi_listK (K:=K) (by rfl) ?q13
    case' q13=>refine' pe_callC (C_ranks T) (hr.mono (by decide)) rfl ?q14
    case' q14=>refine' pa_cons ?q15 pa_nil
    case' q15=>refine' pe_callC (C_checked_train T) (hr.mono (by decide)) rfl ?q16
    case q16=>exact pa_cons (pv 1) pa_nil
   case q11=>exact pg_name (i:=0) (show List.Nodup (["rank", "ahead"]:List Str) from by decide +kernel) (by rfl) (by exact Or.inl rfl)
   case q12=>
    refine' pe_op (op_addK (K:=K) (by rfl)) (pv 0) ?q17
    case' q17=>refine' pe_callB (callK_len (K:=K) (by rfl)) (by rfl) T.n_len b_len ?q18
    case q18=>exact pa_cons (pv 1) pa_nil
  refine ⟨_,rfl,a,TA,rfl,ha,by omega,na,fun wA H1 s1 f1 h1=>?_⟩
  refine ⟨wA,TA,rfl,h1,by omega,hTab.same s1,fun r1 H2 o1 s2 f2 hR1 h2=>?_⟩
  have s12:=s1.trans s2
  refine ⟨_,rfl,_,rfl,b,TB,rfl,s12 _ _ hb,by omega,nb,fun wB H3 s3 f3 h3=>?_⟩
  refine ⟨wB,TB,rfl,h3,by omega,hTab.same (s12.trans s3),fun r2 H4 o2 s4 f4 hR2 h4=>?_⟩
  have s14:=s12.trans (s3.trans s4)
  refine ⟨r2,rfl,⟨_,SqL.of h4⟩,fun p hp=>?_⟩
  have h24:=(s3.trans s4) _ _ h2
  have l1:(rankL TA o1).length=TA.length:=by unfold rankL;rw [List.length_map,List.length_range]
  have l2:(rankL TB o2).length=TB.length:=by unfold rankL;rw [List.length_map,List.length_range]
  refine turns_list (K:=K) (a:=r2) (xs:=ordV (rankL TB o2)) (fun i σ H5=>(∃ v,σ=[v,some (.ref r1)]) /\ Same H4 H5 /\ H5 p=some (.lst (ordV (((rankL TB o2).take i).map fun r=>r+(rankL TA o1).length))))
   ⟨⟨_,rfl⟩,Same.upd hp,upd_same⟩ (fun i σ H5 _ h=>SqL.of (h.2.1 _ _ h4)) ?_ ?_
  ·rintro i x σ H5 hx ⟨⟨v,rfl⟩,s5,h5⟩
   obtain ⟨r,er,rfl⟩:=getMap hx
   have hi:=(List.getElem?_eq_some_iff.mp er).1
   refine ⟨_,rfl,_,rfl,_,_,rfl,.inl ⟨_,SqL.of (s5 _ _ h24),rfl⟩,.inl ⟨_,_,rfl,rfl,?_⟩⟩
   refine ⟨_,h5,?_,⟨_,rfl⟩,Same.updN s5 hp,?_⟩
   ·rw [List.length_map,List.length_map,List.length_take]
    exact small1000' (by omega)
   ·rw [upd_same,take_snoc er,List.map_append]
    show some (HO.lst (ordV _++[V.int ((r:Int)+((ordV (rankL TA o1)).length:Int))]))=some (HO.lst (ordV (_++[r+(rankL TA o1).length])))
    rw [<- ordV_sn,List.length_map]
    rfl
  rintro σ H5 ⟨_,s5,h5⟩
  rw [List.length_map,List.take_length] at h5
  refine .inr (.inl ⟨r1,p,_,_,rfl,rfl,s5 _ _ h24,h5,?_,fun q hq=>?_⟩)
  ·rw [List.length_map,List.length_map,List.length_map]
   exact Nat.le_of_lt (small1000' (by omega))
  refine kQ q _ o1 o2 ((s14.trans s5).trans (Same.upd hq)) ((s14.trans s5).free hq) hR1 hR2 ?_
  rw [upd_same]
  unfold behindL
  exact congrArg (fun z=>some (HO.lst z)) List.map_append.symm
def shf(lv tr sk mv:Addr)(g:Int):List (Str × V):=[("leaving",.ref lv),("tracks",.ref tr),("stacks",.ref sk),("gone",.int g),("moves",.ref mv)]
theorem shf_leaving(lv tr sk mv:Addr)(g:Int):(shf lv tr sk mv g).lookup ("leaving":Str)=some (.ref lv):=rfl
theorem shf_tracks(lv tr sk mv:Addr)(g:Int):(shf lv tr sk mv g).lookup ("tracks":Str)=some (.ref tr):=rfl
theorem shf_stacks(lv tr sk mv:Addr)(g:Int):(shf lv tr sk mv g).lookup ("stacks":Str)=some (.ref sk):=rfl
theorem shf_gone(lv tr sk mv:Addr)(g:Int):(shf lv tr sk mv g).lookup ("gone":Str)=some (.int g):=rfl
theorem shf_moves(lv tr sk mv:Addr)(g:Int):(shf lv tr sk mv g).lookup ("moves":Str)=some (.ref mv):=rfl
theorem shf_put(lv tr sk mv:Addr)(g g':Int):putF "gone" (.int g') (shf lv tr sk mv g)=shf lv tr sk mv g':=rfl
theorem shf_new(lv tr sk mv:Addr):putF "moves" (.ref mv) (putF "gone" (.int 0) (putF "stacks" (.ref sk) (putF "tracks" (.ref tr) (putF "leaving" (.ref lv) []))))=shf lv tr sk mv 0:=rfl
theorem shf_no(lv tr sk mv:Addr)(g:Int):(shf lv tr sk mv g).lookup ("let_all_come":Str)=none /\ (shf lv tr sk mv g).lookup ("let_those_leave_that_can":Str)=none /\ (shf lv tr sk mv g).lookup ("is_done":Str)=none /\ (shf lv tr sk mv g).lookup ("covered":Str)=none /\ (shf lv tr sk mv g).lookup ("cover":Str)=none:=⟨rfl,rfl,rfl,rfl,rfl⟩
structure Sk(Z:Adr)(H0 H:Hp)(q lv tr sk mv:Addr)(sks:List Addr)(ord trk:List Nat)(s:Sh.S):Prop where
 ins:∃ dq,H q=some (.ins Z.cShunting dq (shf lv tr sk mv (s.gone:Int)))
 lv0:H0 lv=some (.lst (ordV ord))
 tr0:H0 tr=some (.lst (ordV trk))
 stk:H sk=some (.lst (sks.map V.ref))
 len:sks.length=s.st.length
 each:∀ (t:Nat) (a:Addr),sks[t]?=some a->H a=some (.lst (ordV (s.st.getD t []))) /\ H0 a=none /\ a≠mv /\ a≠sk
 apart:∀ (t u:Nat) (a b:Addr),sks[t]?=some a->sks[u]?=some b->t≠u->a≠b
 mov:MovesAt H mv s.mv
 q0:H0 q=none
 k0:H0 sk=none
 m0:H0 mv=none
 ms:mv≠sk
 same:Same H0 H
section
variable {H0 H:Hp} {q lv tr sk mv:Addr} {sks:List Addr} {ord trk:List Nat} {s:Sh.S}
theorem Sk.sameH(h:Sk Z H0 H q lv tr sk mv sks ord trk s){H':Hp}(e:Same H H'):Sk Z H0 H' q lv tr sk mv sks ord trk s:=
 ⟨let ⟨dq,z⟩:=h.ins;⟨dq,e _ _ z⟩,h.lv0,h.tr0,e _ _ h.stk,h.len,fun t a z=>let ⟨h1,r⟩:=h.each t a z;⟨e _ _ h1,r⟩,h.apart,h.mov.same e,h.q0,h.k0,h.m0,h.ms,h.same.trans e⟩
theorem Sk.setS(h:Sk Z H0 H q lv tr sk mv sks ord trk s){t:Nat}{a:Addr}(ha:sks[t]?=some a)(c:List Nat):Sk Z H0 (upd H a (.lst (ordV c))) q lv tr sk mv sks ord trk ⟨s.st.set t c,s.gone,s.mv⟩:=by
 obtain ⟨e1,e2,e3,e4⟩:=h.each t a ha
 have ht:t < s.st.length:=by rw [<- h.len];exact (List.getElem?_eq_some_iff.mp ha).1
 refine ⟨?_,h.lv0,h.tr0,by rw [upd_ne e4.symm];exact h.stk,by rw [List.length_set];exact h.len,fun u b hb=>?_,h.apart,h.mov.put e3.symm (fun xs z=>by rw [e1] at z;cases z),h.q0,h.k0,h.m0,h.ms,Same.updN h.same e2⟩
 ·obtain ⟨dq,z⟩:=h.ins
  exact ⟨dq,by rw [upd_ne (ne_of z e1 fun w=>by cases w)];exact z⟩
 ·show upd H a _ b=some (.lst (ordV ((s.st.set t c).getD u []))) /\ _
  rw [Sh.getD_set ht]
  obtain ⟨f1,r⟩:=h.each u b hb
  by_cases hu:u=t
  ·subst hu
   have:b=a:=Option.some.inj (hb.symm.trans ha)
   subst this
   rw [if_pos rfl]
   exact ⟨upd_same,r⟩
  ·rw [if_neg hu,upd_ne (h.apart u t b a hb ha hu)]
   exact ⟨f1,r⟩
theorem Sk.addM(h:Sk Z H0 H q lv tr sk mv sks ord trk s){t:Addr}(ht:H t=none)(m:Yd.Mv){rs:List Addr}(e:H mv=some (.lst (rs.map V.ref)))(hp:Paired (MvT H) rs s.mv):
  Sk Z H0 (upd (upd H t (.tup [.str (deed m.1),.int (m.2:Int)])) mv (.lst (rs.map V.ref++[.ref t]))) q lv tr sk mv sks ord trk ⟨s.st,s.gone,s.mv++[m]⟩:=by
 have s1:=Same.upd (o:=.tup [.str (deed m.1),.int (m.2:Int)]) ht
 have tm:t≠mv:=(ne_of_none e ht).symm
 refine ⟨?_,h.lv0,h.tr0,by rw [upd_ne h.ms.symm];exact s1 _ _ h.stk,h.len,fun u b hb=>?_,h.apart,⟨rs++[t],by rw [upd_same,List.map_append];rfl,?_⟩,h.q0,h.k0,h.m0,h.ms,Same.updN (h.same.trans s1) h.m0⟩
 ·obtain ⟨dq,z⟩:=h.ins
  exact ⟨dq,by rw [upd_ne (ne_of z e fun w=>by cases w)];exact s1 _ _ z⟩
 ·obtain ⟨f1,f2,f3,f4⟩:=h.each u b hb
  exact ⟨by rw [upd_ne f3];exact s1 _ _ f1,f2,f3,f4⟩
 ·refine Paired.snoc' (Paired.imp (fun r m' z=>?_) hp) ?_
  ·unfold MvT at z ⊢
   rw [upd_ne (ne_of z e fun w=>by cases w)]
   exact s1 _ _ z
  ·unfold MvT
   rw [upd_ne tm,upd_same]
theorem Sk.setG(h:Sk Z H0 H q lv tr sk mv sks ord trk s)(g:Nat){dq:Addr}:Sk Z H0 (upd H q (.ins Z.cShunting dq (shf lv tr sk mv (g:Int)))) q lv tr sk mv sks ord trk ⟨s.st,g,s.mv⟩:=by
 obtain ⟨dq',z⟩:=h.ins
 have ne:∀ {a:Addr} {xs:List V},H a=some (.lst xs)->a≠q:=fun {a xs} e=>ne_of e z fun w=>by cases w
 obtain ⟨rs,e,_⟩:=h.mov
 exact ⟨⟨dq,upd_same⟩,h.lv0,h.tr0,by rw [upd_ne (ne h.stk)];exact h.stk,h.len,fun u b hb=>let ⟨f1,r⟩:=h.each u b hb;⟨by rw [upd_ne (ne f1)];exact f1,r⟩,h.apart,h.mov.put (ne e) (fun xs w=>by rw [z] at w;cases w),h.q0,h.k0,h.m0,h.ms,Same.updN h.same h.q0⟩
end
def sp_is_done(Z:Adr):Sp:=fun vs H Q _=>∃ (H0:Hp) (q lv tr sk mv:Addr) (sks:List Addr) (ord trk:List Nat) (s:Sh.S),vs=[.ref q] /\ Sk Z H0 H q lv tr sk mv sks ord trk s /\ Q (.bl (decide (s.gone=ord.length))) H
theorem sc_Shunting_is_done:FnScope ["self"] ["self"] (defScope s_Shunting_is_done):=⟨rfl,rfl,rfl,by decide +kernel,rfl,by decide +kernel,by decide +kernel⟩
theorem m_is_done(T:Tx K mg Z):CtrM P w K mg base CX0 1 Z.cShunting "is_done" ["self"] (sp_is_done Z):=by
 refine ctrM_of T.k_Shunting T.m_Shunting_is_done fun f fd F=>F.ok sc_Shunting_is_done (fun vs H Q E h=>?_) (fun cdv A outer s H vs Q E hr h=>?_)
 ·obtain ⟨H0,q,lv,tr,sk,mv,sks,ord,trk,s,rfl,_⟩:=h
  rfl
 ·obtain ⟨H0,q,lv,tr,sk,mv,sks,ord,trk,st,rfl,hS,kQ⟩:=h
  refine' ⟨_,?hterm,?_⟩
  case hterm=>
   refine' pss_one ?q1
   case' q1=>refine' ps_ret ?q2
   case' q2=>refine' pe_cmpR (op_eqK (K:=K) (by rfl) (by exact hr.units)) ?q3 ?q4 (nomark _)
   case q3=>exact pe_fldK (K:=K) (by rfl) (pv 0) rfl
   case' q4=>refine' pe_callB (callK_len (K:=K) (by rfl)) (by rfl) T.n_len b_len ?q5
   case' q5=>refine' pa_cons ?q6 pa_nil
   case q6=>exact pe_fldK (K:=K) (by rfl) (pv 0) rfl
  obtain ⟨dq,hq⟩:=hS.ins
  refine ⟨_,rfl,q,_,dq,_,_,rfl,hq,T.k_Shunting,T.a_Shunting_gone,shf_gone _ _ _ _ _,_,rfl,q,_,dq,_,_,rfl,hq,T.k_Shunting,T.a_Shunting_leaving,shf_leaving _ _ _ _ _,_,_,rfl,.inl ⟨_,SqL.of (hS.same _ _ hS.lv0),rfl⟩,.inl ⟨rfl,?_⟩⟩
  rw [decV,List.length_map,show decide ((st.gone:Int)=(ord.length:Int))=decide (st.gone=ord.length) from decide_eq_decide.mpr (by omega)]
  exact kQ
def sp_covered(Z:Adr):Sp:=fun vs H Q _=>∃ (H0:Hp) (q lv tr sk mv:Addr) (sks:List Addr) (ord trk:List Nat) (s:Sh.S) (f:Nat),vs=[.ref q] /\ Sk Z H0 H q lv tr sk mv sks ord trk s /\ ord[s.gone]?=some f /\ Q (.int (f:Int)) H
theorem sc_Shunting_covered:FnScope ["self"] ["self"] (defScope s_Shunting_covered):=⟨rfl,rfl,rfl,by decide +kernel,rfl,by decide +kernel,by decide +kernel⟩
theorem m_covered(T:Tx K mg Z):CtrM P w K mg base CX0 1 Z.cShunting "covered" ["self"] (sp_covered Z):=by
 refine ctrM_of T.k_Shunting T.m_Shunting_covered fun f fd F=>F.ok sc_Shunting_covered (fun vs H Q E h=>?_) (fun cdv A outer s H vs Q E hr h=>?_)
 ·obtain ⟨H0,q,lv,tr,sk,mv,sks,ord,trk,s,f,rfl,_⟩:=h
  rfl
 ·obtain ⟨H0,q,lv,tr,sk,mv,sks,ord,trk,st,f,rfl,hS,hf,kQ⟩:=h
  refine' ⟨_,?hterm,?_⟩
  case hterm=>
   refine' pss_one ?q1
   case' q1=>refine' ps_ret ?q2
   case' q2=>refine' pe_ix (ix_K (K:=K) (by rfl)) ?q3 ?q4 (fun _ _=>rfl)
   case q3=>exact pe_fldK (K:=K) (by rfl) (pv 0) rfl
   case q4=>exact pe_fldK (K:=K) (by rfl) (pv 0) rfl
  obtain ⟨dq,hq⟩:=hS.ins
  exact ⟨_,rfl,q,_,dq,_,_,rfl,hq,T.k_Shunting,T.a_Shunting_leaving,shf_leaving _ _ _ _ _,_,rfl,q,_,dq,_,_,rfl,hq,T.k_Shunting,T.a_Shunting_gone,shf_gone _ _ _ _ _,.inl ⟨lv,_,(st.gone:Int),.int (f:Int),rfl,rfl,SqL.of (hS.same _ _ hS.lv0),atI_nat (by rw [List.getElem?_map,hf];rfl),kQ⟩⟩
def sp_cover(Z:Adr):Sp:=fun vs H Q _=>∃ (H0:Hp) (q lv tr sk mv:Addr) (sks:List Addr) (ord trk:List Nat) (s:Sh.S) (f c k:Nat),vs=[.ref q] /\ Sk Z H0 H q lv tr sk mv sks ord trk s /\ ord[s.gone]?=some f /\ f < trk.length /\ trk.getD f 0 < s.st.length /\
 (s.st.getD (trk.getD f 0) [])[k]?=some f /\ (s.st.getD (trk.getD f 0) [])[k+1]?=some c /\ (∀ k' < k,(s.st.getD (trk.getD f 0) [])[k']?≠some f) /\ (∀ x∈s.st.getD (trk.getD f 0) [],x < 1000) /\ (s.st.getD (trk.getD f 0) []).length <= 1000 /\ Q (.int (c:Int)) H
theorem sc_Shunting_cover:FnScope ["self", "stack"] ["self"] (defScope s_Shunting_cover):=⟨rfl,rfl,rfl,by decide +kernel,rfl,by decide +kernel,by decide +kernel⟩
theorem m_cover(T:Tx K mg Z):CtrM P w K mg base CX0 2 Z.cShunting "cover" ["self"] (sp_cover Z):=by
 refine ctrM_of T.k_Shunting T.m_Shunting_cover fun f fd F=>F.ok sc_Shunting_cover (fun vs H Q E h=>?_) (fun cdv A outer s H vs Q E hr h=>?_)
 ·obtain ⟨H0,q,lv,tr,sk,mv,sks,ord,trk,s,f,c,k,rfl,_⟩:=h
  rfl
 ·obtain ⟨H0,q,lv,tr,sk,mv,sks,ord,trk,st,f,c,k,rfl,hS,hf,hfl,htl,ek,ec,hk',hx,hln,kQ⟩:=h
  refine' ⟨_,?hterm,?_⟩
  case hterm=>
   refine' pss_cons ?q1 ?q2
   case q1=>
    refine' ps_set (i:=1) sc_Shunting_cover.nd rfl (Or.inl rfl) ?q3
    case' q3=>refine' pe_ix (ix_K (K:=K) (by rfl)) ?q4 ?q5 (fun _ _=>rfl)
    case q4=>exact pe_fldK (K:=K) (by rfl) (pv 0) rfl
    case' q5=>refine' pe_ix (ix_K (K:=K) (by rfl)) ?q6 ?q7 (fun _ _=>rfl)
    case q6=>exact pe_fldK (K:=K) (by rfl) (pv 0) rfl
    case q7=>exact pe_methC0 (pv 0) (m_covered T) (hr.mono (by decide))
   case' q2=>refine' pss_one ?q8
   case' q8=>refine' ps_ret ?q9
   case' q9=>refine' pe_ix (ix_K (K:=K) (by rfl)) (pv 1) ?q10 (fun _ _=>rfl)
   case' q10=>refine' pe_op (op_addK (K:=K) (by rfl)) ?q11 pe_int
   case q11=>
    refine' pe_bmK (K:=K) (by rfl) PySem.F.plainAttrs_list PySem.F.slot_list_index PySem.F.type_list_index (mt_index (K:=K) (by rfl)) (pv 1) ?q12
    case q12=>
     refine' pa_cons ?q13 pa_nil
     case q13=>exact pe_methC0 (pv 0) (m_covered T) (hr.mono (by decide))
  obtain ⟨dq,hq⟩:=hS.ins
  obtain ⟨a,ea⟩:∃ a,sks[trk.getD f 0]?=some a:=⟨_,List.getElem?_eq_getElem (by rw [hS.len];exact htl)⟩
  obtain ⟨e1,_⟩:=hS.each _ a ea
  have etf:trk[f]?=some (trk.getD f 0):=by rw [List.getD_eq_getElem?_getD,List.getElem?_eq_getElem hfl];rfl
  refine ⟨_,rfl,q,_,dq,_,_,rfl,hq,T.k_Shunting,T.a_Shunting_stacks,shf_stacks _ _ _ _ _,_,rfl,q,_,dq,_,_,rfl,hq,T.k_Shunting,T.a_Shunting_tracks,shf_tracks _ _ _ _ _,_,rfl,q,dq,_,rfl,hq,(shf_no _ _ _ _ _).2.2.2.1,?_⟩
  refine ⟨H0,q,lv,tr,sk,mv,sks,ord,trk,st,f,rfl,hS,hf,?_⟩
  refine .inl ⟨tr,_,(f:Int),.int ((trk.getD f 0:Nat):Int),rfl,rfl,SqL.of (hS.same _ _ hS.tr0),atI_nat (by rw [List.getElem?_map,etf];rfl),?_⟩
  refine .inl ⟨sk,_,((trk.getD f 0:Nat):Int),.ref a,rfl,rfl,SqL.of hS.stk,atI_nat (by rw [List.getElem?_map,ea];rfl),?_⟩
  refine ⟨_,rfl,_,rfl,.inl ⟨rfl,_,SqL.of e1⟩,_,rfl,q,dq,_,rfl,hq,(shf_no _ _ _ _ _).2.2.2.1,?_⟩
  refine ⟨H0,q,lv,tr,sk,mv,sks,ord,trk,st,f,rfl,hS,hf,?_⟩
  have hmem:(f:Int)∈(st.st.getD (trk.getD f 0) []).map fun (p:Nat)=>(p:Int):=List.mem_map.mpr ⟨f,List.mem_of_getElem? ek,rfl⟩
  refine ⟨a,(st.st.getD (trk.getD f 0) []).map fun (p:Nat)=>(p:Int),(f:Int),rfl,rfl,SqL.of (by rw [e1,nats_ints]),by rw [List.length_map];omega,fun z hz=>?_,hmem,?_⟩
  ·obtain ⟨p,hp,rfl⟩:=List.mem_map.mp hz
   have:=hx p hp
   omega
  have hidx:((st.st.getD (trk.getD f 0) []).map fun (p:Nat)=>(p:Int)).idxOf (f:Int)=k:=by
   have h1:((st.st.getD (trk.getD f 0) []).map fun (p:Nat)=>(p:Int))[k]?=some (f:Int):=by rw [List.getElem?_map,ek];rfl
   rcases Nat.lt_trichotomy (((st.st.getD (trk.getD f 0) []).map fun (p:Nat)=>(p:Int)).idxOf (f:Int)) k with z | z | z
   ·exfalso
    have hl:=List.idxOf_lt_length_iff.mpr hmem
    have h2:((st.st.getD (trk.getD f 0) []).map fun (p:Nat)=>(p:Int))[((st.st.getD (trk.getD f 0) []).map fun (p:Nat)=>(p:Int)).idxOf (f:Int)]?=some (f:Int):=by rw [List.getElem?_eq_getElem hl,List.getElem_idxOf]
    rw [List.getElem?_map] at h2
    obtain ⟨p,hp,ep⟩:=Option.map_eq_some_iff.mp h2
    have:p=f:=by omega
    rw [this] at hp
    exact hk' _ z hp
   ·exact z
   ·exfalso
    have:=List.not_of_lt_findIdx (p:=fun x=>x==(f:Int)) (xs:=(st.st.getD (trk.getD f 0) []).map fun (p:Nat)=>(p:Int)) (i:=k) (by unfold List.idxOf at z;exact z)
    obtain ⟨hk1,ez⟩:=List.getElem?_eq_some_iff.mp h1
    rw [ez] at this
    simp at this
  rw [hidx]
  refine .inl ⟨(k:Int),1,rfl,rfl,?_⟩
  exact .inl ⟨a,_,(k:Int)+1,.int (c:Int),rfl,rfl,SqL.of e1,by rw [show (k:Int)+1=((k+1:Nat):Int) from by omega];exact atI_nat (by rw [List.getElem?_map,ec];rfl),kQ⟩
structure Well(ord trk:List Nat)(many n:Nat):Prop where
 o:Sh.Ord ord n
 ol:ord.length=n
 tl:trk.length=n
 tm:∀ p,p < n->trk.getD p 0 < many
 nl:n <= 200
def sp_leave(Z:Adr):Sp:=fun vs H Q _=>∃ (H0:Hp) (q lv tr sk mv:Addr) (sks:List Addr) (ord trk:List Nat) (many n:Nat) (s:Sh.S),vs=[.ref q] /\ Sk Z H0 H q lv tr sk mv sks ord trk s /\ Well ord trk many n /\ s.st.length=many /\ s.mv.length <= 300+s.gone /\ s.gone <= n /\
 ∀ (s':Sh.S) (H':Hp),Sh.Outs ord trk s s'->Sh.out ord trk s'=none->Sk Z H0 H' q lv tr sk mv sks ord trk s'->s'.st.length=many->s'.mv.length <= 300+s'.gone->s'.gone <= n->Q .non H'
theorem sc_Shunting_let_those_leave_that_can:FnScope ["self", "wanted", "track"] ["self"] (defScope s_Shunting_let_those_leave_that_can):=⟨rfl,rfl,rfl,by decide +kernel,rfl,by decide +kernel,by decide +kernel⟩
theorem m_let_those_leave_that_can(T:Tx K mg Z):CtrM P w K mg base CX0 3 Z.cShunting "let_those_leave_that_can" ["self"] (sp_leave Z):=by
 refine ctrM_of T.k_Shunting T.m_Shunting_let_those_leave_that_can fun f fd F=>F.ok sc_Shunting_let_those_leave_that_can (fun vs H Q E h=>?_) (fun cdv A outer s H vs Q E hr h=>?_)
 ·obtain ⟨H0,q,lv,tr,sk,mv,sks,ord,trk,many,n,s,rfl,_⟩:=h
  rfl
 ·obtain ⟨H0,q,lv,tr,sk,mv,sks,ord,trk,many,n,st,rfl,hS,hW,hsl,hml,hgl,kQ⟩:=h
  refine' ⟨_,?hterm,?_⟩
  case hterm=>
   refine' pss_one ?q1
   case' q1=>refine' ps_while HP ?q2 ?q3
   case q2=>
    refine' pt_not ?q4
    case' q4=>refine' pt_truK (K:=K) (by rfl) ?q5 (fun _=>rfl)
    case q5=>exact pe_methC0 (pv 0) (m_is_done T) (hr.mono (by decide))
   case' q3=>refine' pss_cons ?q6 ?q7
   case q6=>
    refine' ps_set (i:=1) sc_Shunting_let_those_leave_that_can.nd rfl (Or.inl rfl) ?q8
    case' q8=>refine' pe_ix (ix_K (K:=K) (by rfl)) ?q9 ?q10 (fun _ _=>rfl)
    case q9=>exact pe_fldK (K:=K) (by rfl) (pv 0) rfl
    case q10=>exact pe_fldK (K:=K) (by rfl) (pv 0) rfl
   case' q7=>refine' pss_cons ?q11 ?q12
   case q11=>
    refine' ps_set (i:=2) sc_Shunting_let_those_leave_that_can.nd rfl (Or.inl rfl) ?q13
    case' q13=>refine' pe_ix (ix_K (K:=K) (by rfl)) ?q14 (pv 1) (fun _ _=>rfl)
    case q14=>exact pe_fldK (K:=K) (by rfl) (pv 0) rfl
   case q12=>
    refine' pss_cons ?q15 ?q16
    case q15=>
     refine' ps_if ?q17 ?q18 pss_nil
     case q17=>
      refine' pt_cmpR (op_neK (K:=K) (by rfl) (by exact hr.units)) ?q19 ?q20 (nomark _)
      case q19=>
       refine' pe_slice (sl_K (K:=K) (by rfl)) ?q21 ?q22 po_none
       case q21=>
        refine' pe_ix (ix_K (K:=K) (by rfl)) ?q23 (pv 2) (fun _ _=>rfl)
        case q23=>exact pe_fldK (K:=K) (by rfl) (pv 0) rfl
       case' q22=>refine' po_some ?q24
       case q24=>exact pe_un un_neg pe_int
      case' q20=>refine' pe_lst ?q25
      case q25=>exact pa_cons (pv 1) pa_nil
     case' q18=>refine' pss_one ?q26
     case q26=>exact ps_retN
    case' q16=>refine' pss_cons ?q27 ?q28
    case q27=>
     refine' ps_expr ?q29
     case' q29=>refine' pe_bmK0 (K:=K) (by rfl) PySem.F.plainAttrs_list PySem.F.slot_list_pop PySem.F.type_list_pop mt_popU ?q30
     case' q30=>refine' pe_ix (ix_K (K:=K) (by rfl)) ?q31 (pv 2) (fun _ _=>rfl)
     case q31=>exact pe_fldK (K:=K) (by rfl) (pv 0) rfl
    case' q28=>refine' pss_cons ?q32 ?q33
    case q32=>
     refine' ps_expr ?q34
     case' q34=>refine' pe_bmK (K:=K) (by rfl) PySem.F.plainAttrs_list PySem.F.slot_list_append PySem.F.type_list_append mt_append ?q35 ?q36
     case q35=>exact pe_fldK (K:=K) (by rfl) (pv 0) rfl
     case' q36=>refine' pa_cons ?q37 pa_nil
     case' q37=>refine' pe_tup ?q38
     case' q38=>refine' pa_cons pe_str ?q39
     case q39=>exact pa_cons (pv 2) pa_nil
    case' q33=>refine' pss_one ?q40
    case q40=>exact ps_fldaugK (K:=K) (by rfl) (pv 0) pe_int in_add
  refine ⟨fun m σ H1=>∃ (s1:Sh.S) (v1 v2:Option V),m=n - s1.gone /\ σ=[some (.ref q),v1,v2] /\ Sh.Outs ord trk st s1 /\ Sk Z H0 H1 q lv tr sk mv sks ord trk s1 /\ s1.st.length=many /\ s1.mv.length <= 300+s1.gone /\ s1.gone <= n,⟨_,st,none,none,rfl,rfl,.refl _,hS,hsl,hml,hgl⟩,?_⟩
  rintro m σ H1 ⟨s1,v1,v2,rfl,rfl,hO,hS1,hsl1,hml1,hgl1⟩
  obtain ⟨dq,hq⟩:=hS1.ins
  refine ⟨_,rfl,q,dq,_,rfl,hq,(shf_no _ _ _ _ _).2.2.1,H0,q,lv,tr,sk,mv,sks,ord,trk,s1,rfl,hS1,_,rfl,?_⟩
  by_cases hd:s1.gone=ord.length
  ·refine iteNSc hd ?_
   refine kQ s1 H1 hO ?_ hS1 hsl1 hml1 hgl1
   unfold Sh.out
   rw [List.getElem?_eq_none_iff.mpr (by omega)]
  ·refine iteNT hd ?_
   have hlt:s1.gone < ord.length:=by have:=hW.ol;omega
   obtain ⟨wd,ew⟩:∃ wd,ord[s1.gone]?=some wd:=⟨_,List.getElem?_eq_getElem hlt⟩
   have hwn:=hW.o.lt ew
   have etw:trk[wd]?=some (trk.getD wd 0):=by rw [List.getD_eq_getElem?_getD,List.getElem?_eq_getElem (by rw [hW.tl];exact hwn)];rfl
   have htm:=hW.tm wd hwn
   obtain ⟨a,ea⟩:∃ a,sks[trk.getD wd 0]?=some a:=⟨_,List.getElem?_eq_getElem (by rw [hS1.len,hsl1];exact htm)⟩
   obtain ⟨e1,e2,e3,e4⟩:=hS1.each _ a ea
   refine ⟨fun σ' H'=>∃ m',m' < n - s1.gone /\ ∃ (s2:Sh.S) (v1 v2:Option V),m'=n - s2.gone /\ σ'=[some (.ref q),v1,v2] /\ Sh.Outs ord trk st s2 /\ Sk Z H0 H' q lv tr sk mv sks ord trk s2 /\ s2.st.length=many /\ s2.mv.length <= 300+s2.gone /\ s2.gone <= n,fun σ' H' z=>z,?_⟩
   refine ⟨_,rfl,q,_,dq,_,_,rfl,hq,T.k_Shunting,T.a_Shunting_leaving,shf_leaving _ _ _ _ _,_,rfl,q,_,dq,_,_,rfl,hq,T.k_Shunting,T.a_Shunting_gone,shf_gone _ _ _ _ _,.inl ⟨lv,_,(s1.gone:Int),.int (wd:Int),rfl,rfl,SqL.of (hS1.same _ _ hS1.lv0),atI_nat (by rw [List.getElem?_map,ew];rfl),?_⟩⟩
   refine ⟨_,rfl,q,_,dq,_,_,rfl,hq,T.k_Shunting,T.a_Shunting_tracks,shf_tracks _ _ _ _ _,_,rfl,.inl ⟨tr,_,(wd:Int),.int ((trk.getD wd 0:Nat):Int),rfl,rfl,SqL.of (hS1.same _ _ hS1.tr0),atI_nat (by rw [List.getElem?_map,etw];rfl),?_⟩⟩
   refine ⟨_,rfl,q,_,dq,_,_,rfl,hq,T.k_Shunting,T.a_Shunting_stacks,shf_stacks _ _ _ _ _,_,rfl,.inl ⟨sk,_,((trk.getD wd 0:Nat):Int),.ref a,rfl,rfl,SqL.of hS1.stk,atI_nat (by rw [List.getElem?_map,ea];rfl),?_⟩⟩
   refine ⟨_,rfl,_,rfl,a,_,rfl,SqL.of e1,fun u hu=>?_⟩
   have ecut:cutV (ordV (s1.st.getD (trk.getD wd 0) [])) (some (-1)) none=((s1.st.getD (trk.getD wd 0) []).getLast?.toList.map fun (p:Nat)=>(p:Int)).map V.int:=by
    rw [cutV_last,drop_last,List.getLast?_map]
    cases (s1.st.getD (trk.getD wd 0) []).getLast?<;>rfl
   have ecut':cutV (ordV (s1.st.getD (trk.getD wd 0) [])) (some (-(1:Int))) none=((s1.st.getD (trk.getD wd 0) []).getLast?.toList.map fun (p:Nat)=>(p:Int)).map V.int:=ecut
   rw [ecut']
   refine ⟨_,rfl,(by show 1 <= sizeLine;decide),fun x hx=>.inr ⟨dI ((s1.st.getD (trk.getD wd 0) []).getLast?.toList.map fun (p:Nat)=>(p:Int)),dI [(wd:Int)],.ints (SqL.of (upd_get upd_same hx)),.ints (SqL.of upd_same),ok_ints _ _,ok_ints _ _,_,rfl,?_⟩⟩
   have sA:Same H1 (upd (upd H1 u (.lst (((s1.st.getD (trk.getD wd 0) []).getLast?.toList.map fun (p:Nat)=>(p:Int)).map V.int))) x (.lst [.int (wd:Int)])):=(Same.upd hu).trans (Same.upd hx)
   have hS2:=hS1.sameH sA
   refine iteNB (fun hne=>?_) (fun heq=>?_)
   ·refine kQ s1 _ hO ?_ hS2 hsl1 hml1 hgl1
    unfold Sh.out
    rw [ew]
    exact if_neg fun z=>hne (by rw [last_is.mpr z])
   ·have hlast:(s1.st.getD (trk.getD wd 0) []).getLast?=some wd:=last_is.mp (dI_inj heq)
    have hout:Sh.out ord trk s1=some ⟨s1.st.set (trk.getD wd 0) (s1.st.getD (trk.getD wd 0) []).dropLast,s1.gone+1,s1.mv++[(false,trk.getD wd 0)]⟩:=by
     unfold Sh.out
     rw [ew]
     exact if_pos hlast
    obtain ⟨dq2,hq2⟩:=hS2.ins
    obtain ⟨f1,f2,f3,f4⟩:=hS2.each _ a ea
    refine ⟨_,rfl,q,_,dq2,_,_,rfl,hq2,T.k_Shunting,T.a_Shunting_stacks,shf_stacks _ _ _ _ _,_,rfl,.inl ⟨sk,_,((trk.getD wd 0:Nat):Int),.ref a,rfl,rfl,SqL.of hS2.stk,atI_nat (by rw [List.getElem?_map,ea];rfl),?_⟩⟩
    refine ⟨.inl ⟨rfl,_,SqL.of f1⟩,.inl ⟨a,_,.int (wd:Int),rfl,rfl,f1,?_,?_⟩⟩
    ·rw [List.length_map,List.getElem?_map,<- List.getLast?_eq_getElem?,hlast]
     rfl
    rw [<- List.map_dropLast]
    have hS3:=hS2.setS ea (s1.st.getD (trk.getD wd 0) []).dropLast
    obtain ⟨dq3,hq3⟩:=hS3.ins
    obtain ⟨rs,em,pm⟩:=hS3.mov
    refine ⟨_,rfl,q,_,dq3,_,_,rfl,hq3,T.k_Shunting,T.a_Shunting_moves,shf_moves _ _ _ _ _,.inl ⟨rfl,_,SqL.of em⟩,?_⟩
    refine ⟨_,rfl,(by show 2 <= sizeLine;decide),fun t ht=>⟨mv,_,_,rfl,rfl,upd_get em ht,?_,?_⟩⟩
    ·rw [List.length_map,Paired.length pm]
     exact small1000' (by have:=hW.nl;show s1.mv.length <= _;omega)
    have hS4:=hS3.addM ht (false,trk.getD wd 0) em pm
    obtain ⟨dq4,hq4⟩:=hS4.ins
    refine ⟨_,rfl,q,_,dq4,_,_,rfl,hq4,T.k_Shunting,T.a_Shunting_gone,shf_gone _ _ _ _ _,(s1.gone:Int),1,rfl,rfl,dq4,_,hq4,(by show 5 < 1000;decide),?_⟩
    rw [shf_put]
    refine ⟨n - (s1.gone+1),by have:=hW.ol;omega,⟨s1.st.set (trk.getD wd 0) (s1.st.getD (trk.getD wd 0) []).dropLast,s1.gone+1,s1.mv++[(false,trk.getD wd 0)]⟩,_,_,rfl,rfl,.step hO hout,hS4.setG (s1.gone+1),by rw [List.length_set];exact hsl1,by rw [List.length_append];simp only [List.length_cons,List.length_nil];omega,by have:=hW.ol;show s1.gone+1 <= n;omega⟩
def sp_all_come(Z:Adr):Sp:=fun vs H Q _=>∃ (H0:Hp) (q lv tr sk mv:Addr) (sks:List Addr) (ord trk:List Nat) (many n:Nat),vs=[.ref q] /\ Sk Z H0 H q lv tr sk mv sks ord trk (Sh.init many) /\ Well ord trk many n /\
 ∀ (s':Sh.S) (H':Hp),Sh.Run ord trk many n s'->Sk Z H0 H' q lv tr sk mv sks ord trk s'->s'.st.length=many->s'.mv.length <= 600->s'.gone <= n->Q .non H'
theorem sc_Shunting_let_all_come:FnScope ["self", "place", "track"] ["self"] (defScope s_Shunting_let_all_come):=⟨rfl,rfl,rfl,by decide +kernel,rfl,by decide +kernel,by decide +kernel⟩
theorem m_let_all_come(T:Tx K mg Z):CtrM P w K mg base CX0 4 Z.cShunting "let_all_come" ["self"] (sp_all_come Z):=by
 refine ctrM_of T.k_Shunting T.m_Shunting_let_all_come fun f fd F=>F.ok sc_Shunting_let_all_come (fun vs H Q E h=>?_) (fun cdv A outer s H vs Q E hr h=>?_)
 ·obtain ⟨H0,q,lv,tr,sk,mv,sks,ord,trk,many,n,rfl,_⟩:=h
  rfl
 ·obtain ⟨H0,q,lv,tr,sk,mv,sks,ord,trk,many,n,rfl,hS,hW,kQ⟩:=h
  refine' ⟨_,?hterm,?_⟩
  case hterm=>
   refine' pss_one ?q1
   case' q1=>refine' ps_for HP rfl ?q2 ?q3 ?q4
   case q2=>
    refine' pi_enumK (K:=K) (by rfl) rfl T.n_enumerate ?q5
    case' q5=>refine' pa_cons ?q6 pa_nil
    case q6=>exact pe_fldK (K:=K) (by rfl) (pv 0) rfl
   case q3=>
    refine' pg_tupK (K:=K) (n:=2) (by rfl) rfl ?q7
    case' q7=>refine' pgs_cons ?q8 ?q9
    case q8=>exact pg_name (i:=1) sc_Shunting_let_all_come.nd (by rfl) (by exact Or.inl rfl)
    case' q9=>refine' pgs_cons ?q10 pgs_nil
    case q10=>exact pg_name (i:=2) sc_Shunting_let_all_come.nd (by rfl) (by exact Or.inl rfl)
   case' q4=>refine' pss_cons ?q11 ?q12
   case q11=>
    refine' ps_expr ?q13
    case' q13=>refine' pe_bmK (K:=K) (by rfl) PySem.F.plainAttrs_list PySem.F.slot_list_append PySem.F.type_list_append mt_append ?q14 ?q15
    case q14=>
     refine' pe_ix (ix_K (K:=K) (by rfl)) ?q16 (pv 2) (fun _ _=>rfl)
     case q16=>exact pe_fldK (K:=K) (by rfl) (pv 0) rfl
    case q15=>exact pa_cons (pv 1) pa_nil
   case' q12=>refine' pss_cons ?q17 ?q18
   case q17=>
    refine' ps_expr ?q19
    case' q19=>refine' pe_bmK (K:=K) (by rfl) PySem.F.plainAttrs_list PySem.F.slot_list_append PySem.F.type_list_append mt_append ?q20 ?q21
    case q20=>exact pe_fldK (K:=K) (by rfl) (pv 0) rfl
    case' q21=>refine' pa_cons ?q22 pa_nil
    case' q22=>refine' pe_tup ?q23
    case' q23=>refine' pa_cons pe_str ?q24
    case q24=>exact pa_cons (pv 2) pa_nil
   case' q18=>refine' pss_one ?q25
   case' q25=>refine' ps_expr ?q26
   case q26=>exact pe_methC0 (pv 0) (m_let_those_leave_that_can T) (hr.mono (by decide))
  obtain ⟨dq0,hq0⟩:=hS.ins
  refine ⟨_,rfl,q,_,dq0,_,_,rfl,hq0,T.k_Shunting,T.a_Shunting_tracks,shf_tracks _ _ _ _ _,tr,rfl,⟨_,SqL.of (hS.same _ _ hS.tr0)⟩,?_⟩
  refine for_enum (K:=K) (a:=tr) (xs:=ordV trk) (fun i σ H1=>∃ (s1:Sh.S) (v1 v2:Option V),σ=[some (.ref q),v1,v2] /\ Sh.Run ord trk many i s1 /\ Sk Z H0 H1 q lv tr sk mv sks ord trk s1 /\ s1.st.length=many /\ s1.mv.length <= i+s1.gone /\ s1.gone <= n) ?_ (fun i σ H1 _ h=>?_) ?_ ?_
  ·exact ⟨_,none,none,rfl,.zero,hS,List.length_replicate,Nat.zero_le _,Nat.zero_le _⟩
  ·obtain ⟨s1,_,_,_,_,h1,_⟩:=h
   exact SqL.of (h1.same _ _ h1.tr0)
  ·rintro i x t σ H1 hx ⟨s1,v1,v2,rfl,hR,hS1,hsl1,hml1,hgl1⟩ ht
   obtain ⟨tt,et,rfl⟩:=getMap hx
   have hi:i < n:=by rw [<- hW.tl];exact (List.getElem?_eq_some_iff.mp et).1
   have ett:trk.getD i 0=tt:=by rw [List.getD_eq_getElem?_getD,et];rfl
   have htm:tt < many:=by rw [<- ett];exact hW.tm i hi
   have s5:Same H1 (upd H1 t (.tup [.int i,.int (tt:Int)])):=Same.upd ht
   have hS5:=hS1.sameH s5
   obtain ⟨dq,hq⟩:=hS5.ins
   obtain ⟨a,ea⟩:∃ a,sks[tt]?=some a:=⟨_,List.getElem?_eq_getElem (by rw [hS1.len,hsl1];exact htm)⟩
   obtain ⟨e1,e2,e3,e4⟩:=hS5.each _ a ea
   have hcl:(s1.st.getD tt []).length <= 200:=by
    obtain ⟨j,_,_,_⟩:=Sh.J.run hW.o hW.tm hR (by omega)
    have hnd:(s1.st.getD tt []).Nodup:=by
     rw [List.nodup_iff_pairwise_ne]
     exact (pairwise_up (fun k a b h1 h2=>j.up tt k a b h1 h2)).imp fun h=>Nat.ne_of_lt h
    have:=List.Nodup.length_le_of_subset hnd (l₂:=List.range i) fun p hp=>List.mem_range.mpr ((j.here tt p).mp hp).1
    rw [List.length_range] at this
    have:=hW.nl
    omega
   refine ⟨t,_,rfl,SqT.of upd_same,rfl,_,_,rfl,_,_,rfl,rfl,?_⟩
   refine ⟨_,rfl,q,_,dq,_,_,rfl,hq,T.k_Shunting,T.a_Shunting_stacks,shf_stacks _ _ _ _ _,_,rfl,.inl ⟨sk,_,(tt:Int),.ref a,rfl,rfl,SqL.of hS5.stk,atI_nat (by rw [List.getElem?_map,ea];rfl),?_⟩⟩
   refine ⟨.inl ⟨rfl,_,SqL.of e1⟩,_,rfl,a,_,_,rfl,rfl,e1,by rw [List.length_map];exact small1000' (by omega),?_⟩
   have eap:ordV (s1.st.getD tt [])++[V.int (i:Int)]=ordV (s1.st.getD tt []++[i]):=by
    show _=List.map (fun (p:Nat)=>V.int (p:Int)) (s1.st.getD tt []++[i])
    rw [List.map_append]
    rfl
   rw [eap]
   have hS6:=hS5.setS ea (s1.st.getD tt []++[i])
   obtain ⟨dq6,hq6⟩:=hS6.ins
   obtain ⟨rs,em,pm⟩:=hS6.mov
   refine ⟨_,rfl,q,_,dq6,_,_,rfl,hq6,T.k_Shunting,T.a_Shunting_moves,shf_moves _ _ _ _ _,.inl ⟨rfl,_,SqL.of em⟩,?_⟩
   refine ⟨_,rfl,(by show 2 <= sizeLine;decide),fun t' ht'=>⟨mv,_,_,rfl,rfl,upd_get em ht',?_,?_⟩⟩
   ·rw [List.length_map,Paired.length pm]
    exact small1000' (by have:=hW.nl;show s1.mv.length <= _;omega)
   have hS7:=hS6.addM ht' (true,tt) em pm
   obtain ⟨dq7,hq7⟩:=hS7.ins
   have einn:Sh.inn trk s1 i=⟨s1.st.set tt (s1.st.getD tt []++[i]),s1.gone,s1.mv++[(true,tt)]⟩:=by
    unfold Sh.inn
    rw [ett]
   refine ⟨_,rfl,q,dq7,_,rfl,hq7,(shf_no _ _ _ _ _).2.1,H0,q,lv,tr,sk,mv,sks,ord,trk,many,n,Sh.inn trk s1 i,rfl,by rw [einn];exact hS7,hW,by rw [einn];show (s1.st.set _ _).length=_;rw [List.length_set];exact hsl1,by rw [einn];show (s1.mv++[_]).length <= 300+s1.gone;rw [List.length_append];simp only [List.length_cons,List.length_nil];have:=hW.nl;omega,by rw [einn];exact hgl1,fun s2 H2 hO hno hS8 h1 h2 h3=>?_⟩
   refine ⟨s2,_,_,rfl,.succ hR hO hno,hS8,h1,?_,h3⟩
   have hl:=outs_len hO
   rw [einn] at hl
   have hl':s2.mv.length+s1.gone=(s1.mv++[(true,tt)]).length+s2.gone:=hl
   rw [List.length_append] at hl'
   simp only [List.length_cons,List.length_nil] at hl'
   omega
  ·rintro σ H1 ⟨s1,v1,v2,rfl,hR,hS1,hsl1,hml1,hgl1⟩
   rw [List.length_map,hW.tl] at hR hml1
   exact kQ s1 H1 hR hS1 hsl1 (by have:=hW.nl;omega) hgl1
def sp_Shunting_init(Z:Adr):Sp:=fun vs H Q _=>∃ (p dx lv tr:Addr) (many:Nat),vs=[.ref p,.ref lv,.ref tr,.int many] /\ H p=some (.ins Z.cShunting dx []) /\ many <= 100 /\
 ∀ (sk mv:Addr) (sks:List Addr) (H':Hp),(∀ c o,H c=some o->c≠p->H' c=some o)->H' p=some (.ins Z.cShunting dx (shf lv tr sk mv 0))->H' sk=some (.lst (sks.map V.ref))->sks.length=many->
  (∀ (t:Nat) (a:Addr),sks[t]?=some a->H' a=some (.lst []) /\ H a=none /\ a≠mv /\ a≠sk)->(∀ (t u:Nat) (a b:Addr),sks[t]?=some a->sks[u]?=some b->t≠u->a≠b)->H' mv=some (.lst [])->H sk=none->H mv=none->mv≠sk->Q .non H'
theorem sc_Shunting_init:FnScope ["self", "leaving", "tracks", "many"] ["self", "leaving", "tracks", "many"] (defScope s_Shunting_init):=⟨rfl,rfl,rfl,by decide +kernel,rfl,by decide +kernel,by decide +kernel⟩
theorem M_Shunting(T:Tx K mg Z):CtrC P w K mg base CX0 1 "Shunting" Z.cShunting ["self", "leaving", "tracks", "many"] (sp_Shunting_init Z):=by
 refine ctrC_of T.c_Shunting T.i_Shunting fun f fd F=>F.ok sc_Shunting_init (fun vs H Q E h=>?_) (fun cdv A outer s H vs Q E hr h=>?_)
 ·obtain ⟨p,dx,lv,tr,many,rfl,_⟩:=h
  rfl
 ·obtain ⟨p,dx,lv,tr,many,rfl,hp,hm,k⟩:=h
  refine' ⟨_,?hterm,?_⟩
  case hterm=>
   refine' pss_cons ?q1 ?q2
   case q1=>exact ps_fldK (K:=K) (by rfl) (pv 0) (pv 1) rfl
   case' q2=>refine' pss_cons ?q3 ?q4
   case q3=>exact ps_fldK (K:=K) (by rfl) (pv 0) (pv 2) rfl
   case' q4=>refine' pss_cons ?q5 ?q6
   case q5=>
    refine' ps_fldK (K:=K) (by rfl) (pv 0) ?q7 rfl
    case' q7=>refine' pe_comp rfl (csc_of (sc:=defScope s_Shunting_init) (N:=["self", "leaving", "tracks", "many"]) (cap:=[none]) (N':=["track"]) rfl rfl ⟨ rfl,by decide +kernel,by decide +kernel,by decide +kernel,rfl,by decide +kernel ⟩) ?q8 (fun _ _ _ _=>?q9) (fun _ _ _ _=>pif_nil) (fun _ _ _ _=>?q10)
    case q8=>
     refine' pi_range1 rfl T.n_range ?q11
     case q11=>exact pa_cons (pv 3) pa_nil
    case q9=>exact pg_name (i:=0) (show List.Nodup (["track"]:List Str) from by decide +kernel) (by rfl) (by exact Or.inl rfl)
    case q10=>exact pe_lst pa_nil
   case' q6=>refine' pss_cons ?q12 ?q13
   case q12=>exact ps_fldK (K:=K) (by rfl) (pv 0) pe_int rfl
   case' q13=>refine' pss_one ?q14
   case' q14=>refine' ps_fldK (K:=K) (by rfl) (pv 0) ?q15 rfl
   case q15=>exact pe_lst pa_nil
  refine ⟨_,rfl,_,rfl,p,_,dx,_,rfl,hp,T.k_Shunting,T.a_Shunting_leaving,(by show 0 < 1000;decide),?_⟩
  refine ⟨_,rfl,_,rfl,p,_,dx,_,rfl,upd_same,T.k_Shunting,T.a_Shunting_tracks,(by show 1 < 1000;decide),?_⟩
  refine ⟨_,rfl,(many:Int),rfl,by omega,by omega,fun sk hsk=>?_⟩
  rw [Int.toNat_natCast]
  rw [upd_upd] at hsk ⊢
  generalize hH1:upd H p (.ins Z.cShunting dx (putF "tracks" (.ref tr) (putF "leaving" (.ref lv) [])))=H1 at hsk ⊢
  have hp1:H1 p=some (.ins Z.cShunting dx (putF "tracks" (.ref tr) (putF "leaving" (.ref lv) []))):=by rw [<- hH1];exact upd_same
  have oth:∀ c o,H c=some o->c≠p->H1 c=some o:=fun c o e hc=>by rw [<- hH1,upd_ne hc];exact e
  have fre:∀ c,H1 c=none->H c=none:=fun c e=>by
   have hc:c≠p:=fun z=>by rw [z,hp1] at e;cases e
   rw [<- hH1,upd_ne hc] at e
   exact e
  refine turns_range (lo:=0) (n:=many) (fun i σ H2=>(∃ v,σ=[v]) /\ Same H1 H2 /\ ∃ sks:List Addr,sks.length=i /\ H2 sk=some (.lst (sks.map V.ref)) /\ (∀ (t:Nat) (a:Addr),sks[t]?=some a->H2 a=some (.lst []) /\ H1 a=none /\ a≠sk) /\ ∀ (t u:Nat) (a b:Addr),sks[t]?=some a->sks[u]?=some b->t≠u->a≠b)
   ⟨⟨_,rfl⟩,Same.upd hsk,[],rfl,upd_same,fun t a e=>by simp at e,fun t u a b e=>by simp at e⟩ ?_ ?_
  ·rintro i σ H2 hi ⟨⟨v,rfl⟩,s2,sks,hl,h1,h2,h3⟩
   refine ⟨Nat.zero_le _,fun u hu=>?_⟩
   have esu:sk≠u:=ne_of_none h1 hu
   refine ⟨_,upd_get h1 hu,?_,⟨_,rfl⟩,Same.updN (s2.trans (Same.upd hu)) hsk,sks++[u],by simp [hl],?_,fun t a e=>?_,fun t t' a b e e' ne=>?_⟩
   ·rw [List.length_map,hl]
    exact small1000 (by omega)
   ·rw [upd_same,List.map_append]
    rfl
   ·rcases Thr.snoc_get e with ⟨_,e⟩ | ⟨_,rfl⟩
    ·obtain ⟨z1,z2,z3⟩:=h2 t a e
     exact ⟨by rw [upd_ne z3];exact upd_get z1 hu,z2,z3⟩
    ·exact ⟨by rw [upd_ne esu.symm,upd_same],s2.free hu,esu.symm⟩
   ·rcases Thr.snoc_get e with ⟨_,e1⟩ | ⟨i1,e1⟩<;>rcases Thr.snoc_get e' with ⟨_,e2⟩ | ⟨i2,e2⟩
    ·exact h3 t t' a b e1 e2 ne
    ·rw [e2];exact ne_of_none (h2 t a e1).1 hu
    ·rw [e1];exact (ne_of_none (h2 t' b e2).1 hu).symm
    ·omega
  ·rintro σ H2 ⟨_,s2,sks,hl,h1,h2,h3⟩
   have hp2:=s2 _ _ hp1
   refine ⟨_,rfl,p,_,dx,_,rfl,hp2,T.k_Shunting,T.a_Shunting_stacks,(by show 2 < 1000;decide),?_⟩
   refine ⟨_,rfl,p,_,dx,_,rfl,upd_same,T.k_Shunting,T.a_Shunting_gone,(by show 3 < 1000;decide),?_⟩
   refine ⟨Nat.zero_le _,fun mv hmv=>?_⟩
   rw [upd_upd] at hmv ⊢
   have npm:p≠mv:=ne_of_none upd_same hmv
   have hm2:H2 mv=none:=by rw [upd_ne npm.symm] at hmv;exact hmv
   refine ⟨_,rfl,p,_,dx,_,rfl,by rw [upd_ne npm,upd_same],T.k_Shunting,T.a_Shunting_moves,(by show 4 < 1000;decide),?_⟩
   rw [shf_new]
   have nps:p≠sk:=ne_of_none hp1 hsk
   refine k sk mv sks _ (fun c o e hc=>?_) upd_same ?_ hl (fun t a e=>?_) h3 ?_ (fre _ hsk) (fre _ (s2.free hm2)) (ne_of_none h1 hm2).symm
   ·have z:=s2 _ _ (oth c o e hc)
    rw [upd_ne hc,upd_ne (ne_of_none z hm2),upd_ne hc]
    exact z
   ·rw [upd_ne nps.symm,upd_ne (ne_of_none h1 hm2),upd_ne nps.symm]
    exact h1
   ·obtain ⟨z1,z2,z3⟩:=h2 t a e
    have nam:a≠mv:=ne_of_none z1 hm2
    have nap:a≠p:=(ne_of_none hp1 z2).symm
    exact ⟨by rw [upd_ne nap,upd_ne nam,upd_ne nap];exact z1,fre _ z2,nam,z3⟩
   ·rw [upd_ne npm.symm,upd_same]
def sp_shunted_blind(Z:Adr):Sp:=fun vs H Q _=>∃ (lv tr:Addr) (ord trk:List Nat) (many n:Nat),vs=[.ref lv,.ref tr,.int many] /\ H lv=some (.lst (ordV ord)) /\ H tr=some (.lst (ordV trk)) /\ Well ord trk many n /\ many <= 100 /\
 ∀ (q sk mv:Addr) (sks:List Addr) (s:Sh.S) (H':Hp),Sh.Run ord trk many n s->Sk Z H H' q lv tr sk mv sks ord trk s->s.st.length=many->s.mv.length <= 600->s.gone <= n->Q (.ref q) H'
theorem sc_shunted_blind:FnScope ["leaving", "tracks", "many", "shunting"] ["leaving", "tracks", "many"] (defScope s_shunted_blind):=⟨rfl,rfl,rfl,by decide +kernel,rfl,by decide +kernel,by decide +kernel⟩
theorem C_shunted_blind(T:Tx K mg Z):Ctr P w K mg base CX0 5 "shunted_blind" ["leaving", "tracks", "many"] (sp_shunted_blind Z):=by
 refine ctr_of T.shunted_blind fun f fd F=>F.ok sc_shunted_blind (fun vs H Q E h=>?_) (fun cdv A outer s H vs Q E hr h=>?_)
 ·obtain ⟨lv,tr,ord,trk,many,n,rfl,_⟩:=h
  rfl
 ·obtain ⟨lv,tr,ord,trk,many,n,rfl,hlv,htr,hW,hm,k⟩:=h
  refine' ⟨_,?hterm,?_⟩
  case hterm=>
   refine' pss_cons ?q1 ?q2
   case q1=>
    refine' ps_set (i:=3) sc_shunted_blind.nd rfl (Or.inl rfl) ?q3
    case' q3=>refine' pe_makeC (M_Shunting T) (hr.mono (by decide)) rfl ?q4
    case' q4=>refine' pa_cons (pv 0) ?q5
    case' q5=>refine' pa_cons (pv 1) ?q6
    case q6=>exact pa_cons (pv 2) pa_nil
   case' q2=>refine' pss_cons ?q7 ?q8
   case q7=>
    refine' ps_expr ?q9
    case q9=>exact pe_methC0 (pv 3) (m_let_all_come T) (hr.mono (by decide))
   case' q8=>refine' pss_one ?q10
   case q10=>exact ps_ret (pv 3)
  refine ⟨_,rfl,_,rfl,_,rfl,fun q dq hq hdq hne=>⟨q,dq,lv,tr,many,rfl,upd_same,hm,fun sk mv sks H3 k1 k2 k3 k4 k5 k6 k7 k8 k9 k10=>⟨rfl,?_⟩⟩⟩
  have s3:Same H H3:=fun c o e=>k1 c o (by rw [upd_ne (ne_of_none e hq),upd_ne (ne_of_none e hdq)];exact e) (ne_of_none e hq)
  have fre:∀ c,upd (upd H dq (.own q)) q (.ins Z.cShunting dq []) c=none->H c=none:=fun c e=>by
   have h1:c≠q:=fun z=>by rw [z,upd_same] at e;cases e
   rw [upd_ne h1] at e
   have h2:c≠dq:=fun z=>by rw [z,upd_same] at e;cases e
   rw [upd_ne h2] at e
   exact e
  have hS:Sk Z H H3 q lv tr sk mv sks ord trk (Sh.init many):=by
   refine ⟨⟨dq,k2⟩,hlv,htr,k3,by rw [k4];exact List.length_replicate.symm,fun t a e=>?_,k6,⟨[],k7,.nil⟩,hq,fre _ k8,fre _ k9,k10,s3⟩
   obtain ⟨z1,z2,z3,z4⟩:=k5 t a e
   refine ⟨?_,fre _ z2,z3,z4⟩
   rw [z1]
   show _=some (HO.lst (ordV ((List.replicate many ([]:List Nat)).getD t [])))
   rw [List.getD_eq_getElem?_getD,List.getElem?_replicate]
   split<;>rfl
  refine ⟨_,rfl,q,dq,_,rfl,k2,(shf_no _ _ _ _ _).1,H,q,lv,tr,sk,mv,sks,ord,trk,many,n,rfl,hS,hW,fun s' H4 hR hS4 h1 h2 h3=>?_⟩
  exact ⟨_,rfl,k q sk mv sks s' H4 hR hS4 h1 h2 h3⟩
def lastsV(ord:List Nat)(n:Nat):List Int:=(List.range n).map fun p=>mx (ord.take (ord.idxOf p))
def sp_last_lesser:Sp:=fun vs H Q _=>∃ (lv:Addr) (ord:List Nat) (n:Nat),vs=[.ref lv] /\ H lv=some (.lst (ordV ord)) /\ Sh.Ord ord n /\ ord.length=n /\ n <= 200 /\ ∀ l H',Same H H'->H l=none->H' l=some (.lst ((lastsV ord n).map V.int))->Q (.ref l) H'
theorem sc_last_lesser:FnScope ["leaving", "lasts", "last", "place"] ["leaving"] (defScope s_last_lesser):=⟨rfl,rfl,rfl,by decide +kernel,rfl,by decide +kernel,by decide +kernel⟩
theorem C_last_lesser(T:Tx K mg Z):Ctr P w K mg base CX0 1 "last_lesser" ["leaving"] sp_last_lesser:=by
 refine ctr_of T.last_lesser fun f fd F=>F.ok sc_last_lesser (fun vs H Q E h=>?_) (fun cdv A outer s H vs Q E hr h=>?_)
 ·obtain ⟨lv,ord,n,rfl,_⟩:=h
  rfl
 ·obtain ⟨lv,ord,n,rfl,hlv,hO,hl,hn,k⟩:=h
  refine' ⟨_,?hterm,?_⟩
  case hterm=>
   refine' pss_cons ?q1 ?q2
   case q1=>
    refine' ps_set (i:=1) sc_last_lesser.nd rfl (Or.inl rfl) ?q3
    case' q3=>refine' pe_op op_mulU ?q4 ?q5
    case q4=>
     refine' pe_lst ?q6
     case' q6=>refine' pa_cons ?q7 pa_nil
     case q7=>exact pe_un un_neg pe_int
    case' q5=>refine' pe_callB (callK_len (K:=K) (by rfl)) (by rfl) T.n_len b_len ?q8
    case q8=>exact pa_cons (pv 0) pa_nil
   case' q2=>refine' pss_cons ?q9 ?q10
   case q9=>
    refine' ps_set (i:=2) sc_last_lesser.nd rfl (Or.inl rfl) ?q11
    case q11=>exact pe_un un_neg pe_int
   case q10=>
    refine' pss_cons ?q12 ?q13
    case q12=>
     refine' ps_for HP rfl ?q14 ?q15 ?q16
     case q14=>exact pi_listK (K:=K) (by rfl) (pv 0)
     case q15=>exact pg_name (i:=3) sc_last_lesser.nd (by rfl) (by exact Or.inl rfl)
     case' q16=>refine' pss_cons ?q17 ?q18
     case q17=>
      refine' ps_asg (pv 2) ?q19
      case q19=>exact pg_sub (pv 1) (pv 3) set_list
     case' q18=>refine' pss_one ?q20
     case' q20=>refine' ps_set (i:=2) sc_last_lesser.nd rfl (Or.inl rfl) ?q21
     case' q21=>refine' pe_callB (call_max2 rfl) (by rfl) T.n_max b_max ?q22
     case' q22=>refine' pa_cons (pv 2) ?q23
     case q23=>exact pa_cons (pv 3) pa_nil
    case' q13=>refine' pss_one ?q24
    case q24=>exact ps_ret (pv 1)
  refine ⟨1,rfl,(by show 1 <= sizeLine;decide),fun e he=>?_⟩
  refine ⟨_,rfl,_,_,rfl,.inl ⟨_,SqL.of (upd_get hlv he),rfl⟩,.inr ⟨e,_,_,rfl,rfl,upd_same,by omega,by rw [List.length_map,hl];omega,?_,fun l hl'=>?_⟩⟩
  ·rw [List.length_map,hl]
   exact Nat.le_of_lt (small1000' (by show 1*_ <= _;omega))
  have hnat:((ordV ord).length:Int).toNat=n:=by rw [List.length_map,hl];exact Int.toNat_natCast n
  rw [hnat]
  have s1:Same H (upd (upd H e (.lst [.int (-1)])) l (.lst (List.replicate n [V.int (-1)]).flatten)):=(Same.upd he).trans (Same.upd hl')
  have hHl:H l=none:=(Same.upd he).free hl'
  have hrep:(List.replicate n [V.int (-1)]).flatten=(List.replicate n (-1:Int)).map V.int:=by
   rw [List.map_replicate]
   clear hnat s1 hl' hO hl hn k
   induction n with
   | zero=>rfl
   | succ n ih=>rw [List.replicate_succ,List.flatten_cons,ih,List.replicate_succ];rfl
  rw [hrep] at s1 ⊢
  refine ⟨1,rfl,?_⟩
  refine ⟨_,rfl,lv,rfl,⟨_,SqL.of (s1 _ _ hlv)⟩,for_list (K:=K) (a:=lv) (xs:=ordV ord) (fun i σ H2=>∃ (L:List Int) (v:Option V),σ=[some (.ref lv),some (.ref l),some (.int (mx (ord.take i))),v] /\ Same H H2 /\ H2 l=some (.lst (L.map V.int)) /\ L.length=n /\ ∀ (j p:Nat),j < i->ord[j]?=some p->L[p]?=some (mx (ord.take j)))
   ⟨_,none,rfl,s1,upd_same,List.length_replicate,fun j p hj=>absurd hj (Nat.not_lt_zero _)⟩ (fun i σ H2 _ ⟨L,v,z1,z2,z3⟩=>SqL.of (z2 _ _ hlv)) ?_ ?_⟩
  ·rintro i x σ H2 hx ⟨L,v,rfl,s2,h2,hL,hd⟩
   obtain ⟨p,ep,rfl⟩:=getMap hx
   have hp:=hO.lt ep
   refine ⟨_,rfl,_,rfl,_,rfl,l,_,(p:Int),p,rfl,rfl,h2,ixN_nat (by rw [List.length_map,hL];exact hp),?_⟩
   refine ⟨_,rfl,_,rfl,_,_,rfl,?_⟩
   refine ⟨L.set p (mx (ord.take i)),some (.int (p:Int)),?_,Same.updN s2 hHl,?_,by rw [List.length_set];exact hL,fun j r hj er=>?_⟩
   ·rw [take_snoc ep,mx_snoc]
    rfl
   ·rw [upd_same,List.map_set]
   ·rcases Nat.lt_or_ge j i with c | c
    ·have hne:p≠r:=fun z=>by
      rw [z] at ep
      have:=hO.idx ep
      have:=hO.idx er
      omega
     rw [List.getElem?_set_ne hne]
     exact hd j r c er
    ·have:j=i:=by omega
     subst this
     have:p=r:=Option.some.inj (ep.symm.trans er)
     subst this
     rw [List.getElem?_set_self (by rw [hL];exact hp)]
  ·rintro σ H2 ⟨L,v,rfl,s2,h2,hL,hd⟩
   refine ⟨_,rfl,k l H2 s2 hHl ?_⟩
   rw [h2]
   congr 2
   congr 1
   refine List.ext_getElem? fun p=>?_
   unfold lastsV
   rw [List.getElem?_map]
   by_cases hp:p < n
   ·rw [List.getElem?_range hp]
    refine hd _ p ?_ (hO.at_ hp)
    rw [List.length_map]
    exact List.idxOf_lt_length_iff.mpr ((hO.mem p).mpr hp)
   ·rw [List.getElem?_eq_none_iff.mpr (by omega),List.getElem?_eq_none_iff.mpr (by rw [List.length_range];omega)]
    rfl
def sp_Shunted_init(C:Addr):Sp:=fun vs H Q _=>∃ (p dx mA:Addr) (xs:List V),vs=[.ref p,.ref mA] /\ H p=some (.ins C dx []) /\ H mA=some (.lst xs) /\ ∀ l,H l=none->l≠p->Q .non (upd (upd H l (.lst xs)) p (.ins C dx [("moves",.ref l)]))
theorem sc_Shunted_init:FnScope ["self", "moves"] ["self", "moves"] (defScope s_Shunted_init):=⟨rfl,rfl,rfl,by decide +kernel,rfl,by decide +kernel,by decide +kernel⟩
theorem M_Shunted(T:Tx K mg Z):CtrC P w K mg base CX0 1 "Shunted" Z.cShunted ["self", "moves"] (sp_Shunted_init Z.cShunted):=by
 refine ctrC_of T.c_Shunted T.i_Shunted fun f fd F=>F.ok sc_Shunted_init (fun vs H Q E h=>?_) (fun cdv A outer s H vs Q E hr h=>?_)
 ·obtain ⟨p,dx,mA,xs,rfl,_⟩:=h
  rfl
 ·obtain ⟨p,dx,mA,xs,rfl,hp,hm,k⟩:=h
  refine' ⟨_,?hterm,?_⟩
  case hterm=>
   refine' pss_one ?q1
   case' q1=>refine' ps_fldK (K:=K) (by rfl) (pv 0) ?q2 rfl
   case' q2=>refine' pe_callTy (callK_list (K:=K) (by rfl)) (by rfl) T.n_list b_list ?q3
   case q3=>exact pa_cons (pv 1) pa_nil
  refine ⟨_,rfl,mA,xs,rfl,.inl (SqL.of hm),fun l hl=>?_⟩
  have hlp:l≠p:=(ne_of_none hp hl).symm
  exact ⟨_,rfl,p,_,dx,_,rfl,upd_get hp hl,T.k_Shunted,T.a_Shunted_moves,(by show 0 < 1000;decide),k l hl hlp⟩
def hfl(i j k:Int):List (Str × V):=[("first",.int i),("second",.int j),("third",.int k)]
theorem hfl_new(i j k:Int):putF "third" (.int k) (putF "second" (.int j) (putF "first" (.int i) []))=hfl i j k:=rfl
def sp_Three_init(C:Addr):Sp:=fun vs H Q _=>∃ (p dx:Addr) (i j k:Int),vs=[.ref p,.int i,.int j,.int k] /\ H p=some (.ins C dx []) /\ ∀ H',H' p=some (.ins C dx (hfl i j k))->(∀ c o,H c=some o->c≠p->H' c=some o)->Q .non H'
theorem sc_Three_init:FnScope ["self", "first", "second", "third"] ["self", "first", "second", "third"] (defScope s_Three_init):=⟨rfl,rfl,rfl,by decide +kernel,rfl,by decide +kernel,by decide +kernel⟩
theorem M_Three(T:Tx K mg Z):CtrC P w K mg base CX0 1 "Three" Z.cThree ["self", "first", "second", "third"] (sp_Three_init Z.cThree):=by
 refine ctrC_of T.c_Three T.i_Three fun f fd F=>F.ok sc_Three_init (fun vs H Q E h=>?_) (fun cdv A outer s H vs Q E hr h=>?_)
 ·obtain ⟨p,dx,i,j,k,rfl,_⟩:=h
  rfl
 ·obtain ⟨p,dx,i,j,k,rfl,hp,kQ⟩:=h
  refine' ⟨_,?hterm,?_⟩
  case hterm=>
   refine' pss_cons ?q1 ?q2
   case q1=>exact ps_fldK (K:=K) (by rfl) (pv 0) (pv 1) rfl
   case' q2=>refine' pss_cons ?q3 ?q4
   case q3=>exact ps_fldK (K:=K) (by rfl) (pv 0) (pv 2) rfl
   case' q4=>refine' pss_one ?q5
   case q5=>exact ps_fldK (K:=K) (by rfl) (pv 0) (pv 3) rfl
  refine ⟨_,rfl,_,rfl,p,_,dx,_,rfl,hp,T.k_Three,T.a_Three_first,(by show 0 < 1000;decide),?_⟩
  refine ⟨_,rfl,_,rfl,p,_,dx,_,rfl,upd_same,T.k_Three,T.a_Three_second,(by show 1 < 1000;decide),?_⟩
  refine ⟨_,rfl,_,rfl,p,_,dx,_,rfl,upd_same,T.k_Three,T.a_Three_third,(by show 2 < 1000;decide),?_⟩
  rw [hfl_new]
  refine kQ _ upd_same fun c o e hc=>?_
  rw [upd_ne hc,upd_ne hc,upd_ne hc]
  exact e
inductive Ans2 where
 | sh (mA:Addr) (gs:List Gm)
 | th (i j k:Int)
def Ans2.At(Z:Adr)(H:Hp)(p:Addr):Ans2->Prop
 | .sh mA gs=>ShAt Z.cShunted H p mA gs /\ gs.length <= 999 /\ GOk 1 gs
 | .th i j k=>ThAt Z.cThree H p i j k
def Ans2.ok(T:List Int):Ans2->Bool
 | .sh _ gs=>shuntB T true 1 gs
 | .th i j k=>threeB T i j k
def sp_one(Z:Adr):Sp:=fun vs H Q _=>∃ (a:Addr) (T:List Int),vs=[.ref a] /\ H a=some (.lst (T.map V.int)) /\ T.Nodup /\ T.length < 200 /\ TabH Z H /\
 ∀ (p:Addr) (an:Ans2) (H':Hp),Same H H'->H p=none->an.At Z H' p->an.ok T=true->(∀ mA gs,an=.sh mA gs->H mA=none)->Q (.ref p) H'
theorem sc_through_one_blind:FnScope ["wagons", "leaving", "shunting", "first"] ["wagons"] (defScope s_through_one_blind):=⟨rfl,rfl,rfl,by decide +kernel,rfl,by decide +kernel,by decide +kernel⟩
theorem C_through_one_blind(T:Tx K mg Z):Ctr P w K mg base CX0 6 "through_one_blind" ["wagons"] (sp_one Z):=by
 refine ctr_of T.through_one_blind fun f fd F=>F.ok sc_through_one_blind (fun vs H Q E h=>?_) (fun cdv A outer s H vs Q E hr h=>?_)
 ·obtain ⟨a,T,rfl,_⟩:=h
  rfl
 ·obtain ⟨a,tr,rfl,ha,hnd,hz,hTab,k⟩:=h
  refine' ⟨_,?hterm,?_⟩
  case hterm=>
   refine' pss_cons ?q1 ?q2
   case q1=>
    refine' ps_set (i:=1) sc_through_one_blind.nd rfl (Or.inl rfl) ?q3
    case' q3=>refine' pe_callC (C_places_in_order T) (hr.mono (by decide)) rfl ?q4
    case q4=>exact pa_cons (pv 0) pa_nil
   case' q2=>refine' pss_cons ?q5 ?q6
   case q5=>
    refine' ps_set (i:=2) sc_through_one_blind.nd rfl (Or.inl rfl) ?q7
    case' q7=>refine' pe_callC (C_shunted_blind T) (hr.mono (by decide)) rfl ?q8
    case' q8=>refine' pa_cons (pv 1) ?q9
    case q9=>
     refine' pa_cons ?q10 ?q11
     case q10=>
      refine' pe_op op_mulU ?q12 ?q13
      case q12=>
       refine' pe_lst ?q14
       case q14=>exact pa_cons pe_int pa_nil
      case' q13=>refine' pe_callB (callK_len (K:=K) (by rfl)) (by rfl) T.n_len b_len ?q15
      case q15=>exact pa_cons (pv 0) pa_nil
     case q11=>exact pa_cons pe_int pa_nil
   case' q6=>refine' pss_cons ?q16 ?q17
   case q16=>
    refine' ps_if ?q18 ?q19 pss_nil
    case q18=>
     refine' pt_truK (K:=K) (by rfl) ?q20 (fun _=>rfl)
     case q20=>exact pe_methC0 (pv 2) (m_is_done T) (hr.mono (by decide))
    case' q19=>refine' pss_one ?q21
    case' q21=>refine' ps_ret ?q22
    case' q22=>refine' pe_makeC (M_Shunted T) (hr.mono (by decide)) rfl ?q23
    case' q23=>refine' pa_cons ?q24 pa_nil
    case q24=>exact pe_fldK (K:=K) (by rfl) (pv 2) rfl
   case' q17=>refine' pss_cons ?q25 ?q26
   case q25=>
    refine' ps_set (i:=3) sc_through_one_blind.nd rfl (Or.inl rfl) ?q27
    case q27=>exact pe_methC0 (pv 2) (m_covered T) (hr.mono (by decide))
   case' q26=>refine' pss_one ?q28
   case' q28=>refine' ps_ret ?q29
   case' q29=>refine' pe_makeC (M_Three T) (hr.mono (by decide)) rfl ?q30
   case' q30=>refine' pa_cons (pv 3) ?q31
   case' q31=>refine' pa_cons ?q32 ?q33
   case q32=>exact pe_methC0 (pv 2) (m_cover T) (hr.mono (by decide))
   case' q33=>refine' pa_cons ?q34 pa_nil
   case' q34=>refine' pe_ix (ix_K (K:=K) (by rfl)) ?q35 (pv 3) (fun _ _=>rfl)
   case' q35=>refine' pe_callC (C_last_lesser T) (hr.mono (by decide)) rfl ?q36
   case q36=>exact pa_cons (pv 1) pa_nil
  refine ⟨_,rfl,a,tr,rfl,ha,by omega,hTab,fun lv H1 ord s1 f1 hR h1=>?_⟩
  refine ⟨_,rfl,(by show 1 <= sizeLine;decide),fun e he=>?_⟩
  refine ⟨_,rfl,_,_,rfl,.inl ⟨_,SqL.of (upd_get (s1 _ _ ha) he),rfl⟩,.inr ⟨e,_,_,rfl,rfl,upd_same,by omega,by rw [List.length_map];omega,?_,fun l hl=>?_⟩⟩
  ·rw [List.length_map]
   exact Nat.le_of_lt (small1000' (by show 1*_ <= _;omega))
  have hnat:((tr.map V.int).length:Int).toNat=tr.length:=by rw [List.length_map];exact Int.toNat_natCast _
  rw [hnat]
  have hrep:(List.replicate tr.length [V.int 0]).flatten=ordV (List.replicate tr.length 0):=by
   show _=List.map (fun (p:Nat)=>V.int (p:Int)) (List.replicate tr.length 0)
   rw [List.map_replicate]
   generalize tr.length=n
   induction n with
   | zero=>rfl
   | succ n ih=>rw [List.replicate_succ,List.flatten_cons,ih,List.replicate_succ];rfl
  rw [hrep]
  have ol:ord.length=tr.length:=by rw [hR.perm.length_eq,List.length_range]
  have gt0:∀ p,(List.replicate tr.length 0).getD p 0=0:=fun p=>by
   rw [List.getD_eq_getElem?_getD,List.getElem?_replicate]
   split<;>rfl
  have hW:Well ord (List.replicate tr.length 0) 1 tr.length:=⟨hR.ord,ol,List.length_replicate,fun p _=>by rw [gt0];decide,by omega⟩
  have s2:Same H1 (upd (upd H1 e (.lst [.int 0])) l (.lst (ordV (List.replicate tr.length 0)))):=(Same.upd he).trans (Same.upd hl)
  refine ⟨lv,l,ord,List.replicate tr.length 0,1,tr.length,rfl,s2 _ _ h1,upd_same,hW,by decide,fun q sk mv sks st H3 hRun hS hsl hml hgl=>?_⟩
  have sH:Same H H3:=(s1.trans s2).trans hS.same
  obtain ⟨dq,hq⟩:=hS.ins
  refine ⟨_,rfl,q,dq,_,rfl,hq,(shf_no _ _ _ _ _).2.2.1,_,q,lv,l,sk,mv,sks,ord,_,st,rfl,hS,_,rfl,?_⟩
  by_cases hd:st.gone=ord.length
  ·refine iteDT hd ?_
   obtain ⟨rs,em,pm⟩:=hS.mov
   refine ⟨_,rfl,q,_,dq,_,_,rfl,hq,T.k_Shunting,T.a_Shunting_moves,shf_moves _ _ _ _ _,fun x dx hx hdx hne=>⟨x,dx,mv,rs.map V.ref,rfl,upd_same,?_,fun u hu hux=>⟨rfl,?_⟩⟩⟩
   ·rw [upd_ne (ne_of_none em hx),upd_ne (ne_of_none em hdx)]
    exact em
   have hu1:upd H3 dx (.own x) u=none:=by rw [upd_ne hux] at hu;exact hu
   have hux2:u≠dx:=fun z=>by rw [z,upd_same] at hu1;cases hu1
   have hu3:H3 u=none:=by rw [upd_ne hux2] at hu1;exact hu1
   have s4:Same H3 (upd (upd (upd (upd H3 dx (.own x)) x (.ins Z.cShunted dx [])) u (.lst (rs.map V.ref))) x (.ins Z.cShunted dx [("moves",.ref u)])):=fun c o z=>by
    rw [upd_ne (ne_of_none z hx),upd_ne (ne_of_none z hu3),upd_ne (ne_of_none z hx),upd_ne (ne_of_none z hdx)]
    exact z
   refine k x (.sh u (st.mv.map gOf)) _ (sH.trans s4) (sH.free hx) ⟨⟨dx,_,upd_same,rfl,rfl,?_⟩,?_,⟨st.mv,rfl,?_⟩⟩ ?_ (fun mA gs z=>by cases z;exact sH.free hu3)
   ·refine MovesAt.g ⟨rs,by rw [upd_ne hux,upd_same],Paired.imp (fun r m z=>?_) pm⟩
    exact s4 _ _ z
   ·rw [List.length_map];omega
   ·exact run_mv_lt hW.tm hW.o hRun (Nat.le_refl _)
   ·exact run_brings hnd hR rfl hW.tm hRun hd
  ·refine iteDF hd ?_
   have hlt:st.gone < tr.length:=by omega
   obtain ⟨fp,cp,kk,ef,hf,ek,ec,hk',hfc,hc,htc,hidx,qq,wd,hqq,ewd,hcw⟩:=Sh.run_end hW.o hW.tm hRun hlt
   rw [gt0] at ek ec hk'
   refine ⟨_,rfl,q,dq,_,rfl,hq,(shf_no _ _ _ _ _).2.2.2.1,_,q,lv,l,sk,mv,sks,ord,_,st,fp,rfl,hS,ef,?_⟩
   refine ⟨_,rfl,_,rfl,q,dq,_,rfl,hq,(shf_no _ _ _ _ _).2.2.2.2,_,q,lv,l,sk,mv,sks,ord,_,st,fp,cp,kk,rfl,hS,ef,by rw [List.length_replicate];exact hf,by rw [gt0,hsl];decide,by rw [gt0];exact ek,by rw [gt0];exact ec,by rw [gt0];exact hk',?_,?_,?_⟩
   ·intro x hx
    obtain ⟨j,_⟩:=Sh.J.run hW.o hW.tm hRun (Nat.le_refl _)
    have:=((j.here _ x).mp hx).1
    omega
   ·obtain ⟨j,_⟩:=Sh.J.run hW.o hW.tm hRun (Nat.le_refl _)
    have hnd2:(st.st.getD ((List.replicate tr.length 0).getD fp 0) []).Nodup:=by
     rw [List.nodup_iff_pairwise_ne]
     exact (pairwise_up (fun k a b h1 h2=>j.up _ k a b h1 h2)).imp fun h=>Nat.ne_of_lt h
    have:=List.Nodup.length_le_of_subset hnd2 (l₂:=List.range tr.length) fun p hp=>List.mem_range.mpr ((j.here _ p).mp hp).1
    rw [List.length_range] at this
    omega
   have hlv3:H3 lv=some (.lst (ordV ord)):=hS.same _ _ (s2 _ _ h1)
   refine ⟨_,rfl,lv,ord,tr.length,rfl,hlv3,hW.o,ol,by omega,fun l2 H4 s4 f4 h4=>?_⟩
   have hlast:(lastsV ord tr.length)[fp]?=some (mx (ord.take (ord.idxOf fp))):=by
    unfold lastsV
    rw [List.getElem?_map,List.getElem?_range hf]
    rfl
   refine ⟨_,rfl,.inl ⟨l2,_,(fp:Int),.int (mx (ord.take (ord.idxOf fp))),rfl,rfl,SqL.of h4,atI_nat (by rw [List.getElem?_map,hlast];rfl),?_⟩⟩
   refine fun x dx hx hdx hne=>⟨x,dx,(fp:Int),(cp:Int),mx (ord.take (ord.idxOf fp)),rfl,upd_same,fun H5 k5 k6=>⟨rfl,?_⟩⟩
   have s5:Same H4 H5:=fun c o z=>k6 c o (by rw [upd_ne (ne_of_none z hx),upd_ne (ne_of_none z hdx)];exact z) (ne_of_none z hx)
   have s45:=sH.trans s4
   have idf:=hW.o.idx ef
   have hwm:wd∈ord.take (ord.idxOf fp):=by
    rw [idf]
    exact List.mem_of_getElem? (i:=qq) (by rw [List.getElem?_take_of_lt hqq];exact ewd)
   obtain ⟨w2,hw2,ew2⟩:=mx_mem hwm
   have hmax:=mx_max hwm
   refine k x (.th (fp:Int) (cp:Int) (mx (ord.take (ord.idxOf fp)))) H5 (s45.trans s5) (s45.free hx) ⟨dx,_,k5,rfl,rfl,rfl,rfl⟩ ?_ (fun mA gs z=>by cases z)
   have hw2n:w2 < tr.length:=(hW.o.mem w2).mp (List.mem_of_mem_take hw2)
   have hlt2:tr.getD w2 0 < tr.getD fp 0:=by
    obtain ⟨i2,hi2,e2⟩:=List.getElem_of_mem hw2
    rw [List.length_take] at hi2
    rw [List.getElem_take] at e2
    exact hR.lt hnd i2 (ord.idxOf fp) w2 fp (by omega) (by rw [List.getElem?_eq_getElem (by omega),e2]) (hW.o.at_ hf)
   have hltc:tr.getD fp 0 < tr.getD cp 0:=hR.lt hnd _ _ fp cp hidx (hW.o.at_ hf) (hW.o.at_ hc)
   show threeB tr (fp:Int) (cp:Int) (mx (ord.take (ord.idxOf fp)))=true
   unfold threeB
   rw [ew2]
   have hr3:rises (tr.length:Int) (-1) [(fp:Int),(cp:Int),(w2:Int)]=true:=by
    rw [rises_split]
    have hw2c:cp < w2:=by omega
    refine ⟨?_,fun p hp=>?_⟩
    ·refine .cons (fun x hx=>?_) (.cons (fun x hx=>?_) (.cons (fun x hx=>?_) (.cons (fun x hx=>(by cases hx)) .nil)))
     ·simp only [List.mem_cons,List.mem_nil_iff,or_false] at hx
      rcases hx with rfl | rfl | rfl<;>omega
     ·simp only [List.mem_cons,List.mem_nil_iff,or_false] at hx
      rcases hx with rfl | rfl<;>omega
     ·simp only [List.mem_cons,List.mem_nil_iff,or_false] at hx
      rcases hx with rfl
      omega
    ·simp only [List.mem_cons,List.mem_nil_iff,or_false] at hp
     rcases hp with rfl | rfl | rfl<;>omega
   rw [hr3,Bool.true_and,Int.toNat_natCast,Int.toNat_natCast,Int.toNat_natCast,decide_eq_true hlt2,decide_eq_true hltc]
   rfl
theorem gD_at{l:List Int}{p:Nat}(h:p < l.length):(l.map V.int)[p]?=some (.int (Gp.gD l p)):=by
 rw [List.getElem?_map,List.getElem?_eq_getElem h]
 show _=some (V.int (l.getD p (-1)))
 rw [List.getD_eq_getElem?_getD,List.getElem?_eq_getElem h]
 rfl
theorem ordV_snoc(c:List Nat)(y:Nat):ordV c++[V.int (y:Int)]=ordV (c++[y]):=by
 show _=List.map (fun (p:Nat)=>V.int (p:Int)) (c++[y])
 rw [List.map_append]
 rfl
def sp_grow_from(Z:Adr):Sp:=fun vs H Q _=>∃ (H0:Hp) (q nA dA pA:Addr) (nbs:List Addr) (nb:List (List Nat)) (dep par:List Int) (n root:Nat) (rt:Nat->Nat),vs=[.ref q,.int (root:Int)] /\ Fk Z H0 H q nA dA pA nbs nb dep par /\ Gp.Nbs nb n /\ n <= 200 /\ Gp.W nb n root dep par [root] [] [] rt /\ dep.count (-1)+1 <= n /\
 ∀ (dep' par':List Int) (rt':Nat->Nat) (H':Hp),Fk Z H0 H' q nA dA pA nbs nb dep' par'->Gp.W nb n root dep' par' [] [] [] rt'->Gp.Ext dep dep'->Q .non H'
theorem sc_Forest_grow_from:FnScope ["self", "root", "reached", "place", "other"] ["self", "root"] (defScope s_Forest_grow_from):=⟨rfl,rfl,rfl,by decide +kernel,rfl,by decide +kernel,by decide +kernel⟩
theorem m_grow_from(T:Tx K mg Z):CtrM P w K mg base CX0 1 Z.cForest "grow_from" ["self", "root"] (sp_grow_from Z):=by
 refine ctrM_of T.k_Forest T.m_Forest_grow_from fun f fd F=>F.ok sc_Forest_grow_from (fun vs H Q E h=>?_) (fun cdv A outer s H vs Q E hr h=>?_)
 ·obtain ⟨H0,q,nA,dA,pA,nbs,nb,dep,par,n,root,rt,rfl,_⟩:=h
  rfl
 ·obtain ⟨H0,q,nA,dA,pA,nbs,nb,dep,par,n,root,rt,rfl,hF,hN,hn,hW,hc,kQ⟩:=h
  refine' ⟨_,?hterm,?_⟩
  case hterm=>
   refine' pss_cons ?q1 ?q2
   case q1=>
    refine' ps_set (i:=2) sc_Forest_grow_from.nd rfl (Or.inl rfl) ?q3
    case' q3=>refine' pe_lst ?q4
    case q4=>exact pa_cons (pv 1) pa_nil
   case' q2=>refine' pss_one ?q5
   case' q5=>refine' ps_while HP ?q6 ?q7
   case q6=>exact pt_truK (K:=K) (by rfl) (pv 2) (fun _=>rfl)
   case' q7=>refine' pss_cons ?q8 ?q9
   case q8=>
    refine' ps_set (i:=3) sc_Forest_grow_from.nd rfl (Or.inl rfl) ?q10
    case q10=>exact pe_bmK0 (K:=K) (by rfl) PySem.F.plainAttrs_list PySem.F.slot_list_pop PySem.F.type_list_pop mt_popU (pv 2)
   case' q9=>refine' pss_one ?q11
   case' q11=>refine' ps_for HP rfl ?q12 ?q13 ?q14
   case q12=>
    refine' pi_listK (K:=K) (by rfl) ?q15
    case' q15=>refine' pe_ix (ix_K (K:=K) (by rfl)) ?q16 (pv 3) (fun _ _=>rfl)
    case q16=>exact pe_fldK (K:=K) (by rfl) (pv 0) rfl
   case q13=>exact pg_name (i:=4) sc_Forest_grow_from.nd (by rfl) (by exact Or.inl rfl)
   case' q14=>refine' pss_one ?q17
   case' q17=>refine' ps_if ?q18 ?q19 pss_nil
   case q18=>
    refine' pt_cmpR (op_eqK (K:=K) (by rfl) (by exact hr.units)) ?q20 ?q21 (nomark _)
    case q20=>
     refine' pe_ix (ix_K (K:=K) (by rfl)) ?q22 (pv 4) (fun _ _=>rfl)
     case q22=>exact pe_fldK (K:=K) (by rfl) (pv 0) rfl
    case q21=>exact pe_un un_neg pe_int
   case' q19=>refine' pss_cons ?q23 ?q24
   case q23=>
    refine' ps_asg ?q25 ?q26
    case q25=>
     refine' pe_op (op_addK (K:=K) (by rfl)) ?q27 pe_int
     case' q27=>refine' pe_ix (ix_K (K:=K) (by rfl)) ?q28 (pv 3) (fun _ _=>rfl)
     case q28=>exact pe_fldK (K:=K) (by rfl) (pv 0) rfl
    case' q26=>refine' pg_sub ?q29 (pv 4) set_list
    case q29=>exact pe_fldK (K:=K) (by rfl) (pv 0) rfl
   case' q24=>refine' pss_cons ?q30 ?q31
   case q30=>
    refine' ps_asg (pv 3) ?q32
    case' q32=>refine' pg_sub ?q33 (pv 4) set_list
    case q33=>exact pe_fldK (K:=K) (by rfl) (pv 0) rfl
   case' q31=>refine' pss_one ?q34
   case' q34=>refine' ps_expr ?q35
   case' q35=>refine' pe_bmK (K:=K) (by rfl) PySem.F.plainAttrs_list PySem.F.slot_list_append PySem.F.type_list_append mt_append (pv 2) ?q36
   case q36=>exact pa_cons (pv 4) pa_nil
  refine ⟨_,rfl,(by show 1 <= sizeLine;decide),fun l hl=>?_⟩
  have hl0:H0 l=none:=hF.same.free hl
  have hld:l≠dA:=(ne_of_none hF.d hl).symm
  have hlp:l≠pA:=(ne_of_none hF.p hl).symm
  refine ⟨fun m σ H1=>∃ (dep1 par1:List Int) (st:List Nat) (rt1:Nat->Nat) (v3 v4:Option V),m=dep1.count (-1)+st.length /\ σ=[some (.ref q),some (.int (root:Int)),some (.ref l),v3,v4] /\ Fk Z H0 H1 q nA dA pA nbs nb dep1 par1 /\ H1 l=some (.lst (ordV st)) /\ Gp.W nb n root dep1 par1 st [] [] rt1 /\ Gp.Ext dep dep1 /\ dep1.count (-1)+st.length <= n,
   ⟨_,dep,par,[root],rt,none,none,rfl,rfl,hF.sameH (Same.upd hl),upd_same,hW,fun _ z=>z,hc⟩,?_⟩
  rintro m σ H1 ⟨dep1,par1,st,rt1,v3,v4,rfl,rfl,hF1,hl1,hW1,hE1,hc1⟩
  refine ⟨_,rfl,_,.inl ⟨_,SqL.of hl1,rfl⟩,?_⟩
  rcases List.eq_nil_or_concat st with rfl | ⟨st,cur,rfl⟩
  ·exact iteF (kQ dep1 par1 rt1 H1 hF1 hW1 hE1)
  rw [List.concat_eq_append] at*
  have hne:(!(ordV (st++[cur])).isEmpty)=true:=by
   show (!(List.map (fun (p:Nat)=>V.int (p:Int)) (st++[cur])).isEmpty)=true
   rw [List.map_append]
   cases st<;>rfl
  rw [hne]
  refine iteT ?_
  refine ⟨fun σ' H'=>∃ m',m' < dep1.count (-1)+(st++[cur]).length /\ ∃ (dep1 par1:List Int) (st:List Nat) (rt1:Nat->Nat) (v3 v4:Option V),m'=dep1.count (-1)+st.length /\ σ'=[some (.ref q),some (.int (root:Int)),some (.ref l),v3,v4] /\ Fk Z H0 H' q nA dA pA nbs nb dep1 par1 /\ H' l=some (.lst (ordV st)) /\ Gp.W nb n root dep1 par1 st [] [] rt1 /\ Gp.Ext dep dep1 /\ dep1.count (-1)+st.length <= n,fun σ' H' z=>z,?_⟩
  refine ⟨_,rfl,.inl ⟨rfl,_,SqL.of hl1⟩,.inl ⟨l,_,.int (cur:Int),rfl,rfl,hl1,?_,?_⟩⟩
  ·rw [<- ordV_snoc];simp
  rw [<- ordV_snoc,List.dropLast_concat]
  have hW2:=hW1.pop
  have hF2:=hF1.setX hl1 hl0 hld hlp (ys:=ordV st)
  obtain ⟨cn,c0,_⟩:=hW2.wait cur (.inr List.mem_cons_self)
  obtain ⟨dq2,hq2⟩:=hF2.ins
  obtain ⟨a,ea⟩:∃ a,nbs[cur]?=some a:=⟨_,List.getElem?_eq_getElem (by rw [hF.len,hN.len];exact cn)⟩
  have ha0:=hF.each _ a ea
  rw [List.length_append] at hc1
  simp only [List.length_cons,List.length_nil] at hc1
  refine ⟨_,rfl,q,_,dq2,_,_,rfl,hq2,T.k_Forest,T.a_Forest_neighbours,fof_neighbours _ _ _,_,rfl,.inl ⟨nA,_,(cur:Int),.ref a,rfl,rfl,SqL.of (hF2.same _ _ hF2.stk),atI_nat (by rw [List.getElem?_map,ea];rfl),?_⟩⟩
  refine ⟨a,rfl,⟨_,SqL.of (hF2.same _ _ ha0)⟩,for_list (K:=K) (a:=a) (xs:=ordV (nb.getD cur [])) (fun k σ H2=>∃ (dep2 par2:List Int) (st2:List Nat) (rt2:Nat->Nat) (v4:Option V),σ=[some (.ref q),some (.int (root:Int)),some (.ref l),some (.int (cur:Int)),v4] /\ Fk Z H0 H2 q nA dA pA nbs nb dep2 par2 /\ H2 l=some (.lst (ordV st2)) /\ Gp.W nb n root dep2 par2 st2 [cur] ((nb.getD cur []).take k) rt2 /\ Gp.Ext dep dep2 /\ dep2.count (-1)+st2.length=dep1.count (-1)+st.length)
   ⟨dep1,par1,st,rt1,v4,rfl,hF2,upd_same,by rw [List.take_zero];exact hW2,hE1,rfl⟩ (fun i σ H2 _ h=>?_) ?_ ?_⟩
  ·obtain ⟨_,_,_,_,_,_,h1,_⟩:=h
   exact SqL.of (h1.same _ _ ha0)
  ·rintro k x σ H2 hx ⟨dep2,par2,st2,rt2,v4',rfl,hF3,hl3,hW3,hE3,hc3⟩
   obtain ⟨o,eo,rfl⟩:=getMap hx
   have hadj:Gp.Adj nb cur o:=List.mem_of_getElem? eo
   have on:=hN.lt _ _ hadj
   obtain ⟨dq3,hq3⟩:=hF3.ins
   have hdl:=hW3.f.dl
   have hpl:=hW3.f.pl
   refine ⟨_,rfl,q,_,dq3,_,_,rfl,hq3,T.k_Forest,T.a_Forest_depths,fof_depths _ _ _,_,rfl,.inl ⟨dA,_,(o:Int),_,rfl,rfl,SqL.of hF3.d,atI_nat (gD_at (by omega)),?_⟩⟩
   refine ⟨1,rfl,.inl ⟨rfl,_,rfl,?_⟩⟩
   refine iteDB (fun he=>?_) (fun he=>?_)
   ·have hD:Gp.gD dep2 o=-1:=V.int.inj he
    refine ⟨_,rfl,q,_,dq3,_,_,rfl,hq3,T.k_Forest,T.a_Forest_depths,fof_depths _ _ _,_,rfl,.inl ⟨dA,_,(cur:Int),_,rfl,rfl,SqL.of hF3.d,atI_nat (gD_at (by omega)),?_⟩⟩
    refine .inl ⟨_,1,rfl,rfl,?_⟩
    refine ⟨_,rfl,q,_,dq3,_,_,rfl,hq3,T.k_Forest,T.a_Forest_depths,fof_depths _ _ _,_,rfl,dA,_,(o:Int),o,rfl,rfl,hF3.d,ixN_nat (by rw [List.length_map];omega),?_⟩
    rw [<- List.map_set]
    have hF4:=hF3.setD (dep2.set o (Gp.gD dep2 cur+1))
    obtain ⟨dq4,hq4⟩:=hF4.ins
    refine ⟨_,rfl,_,rfl,q,_,dq4,_,_,rfl,hq4,T.k_Forest,T.a_Forest_parents,fof_parents _ _ _,_,rfl,pA,_,(o:Int),o,rfl,rfl,hF4.p,ixN_nat (by rw [List.length_map];omega),?_⟩
    rw [<- List.map_set]
    have hF5:=hF4.setP (par2.set o (cur:Int))
    have hl5:upd (upd H2 dA (.lst ((dep2.set o (Gp.gD dep2 cur+1)).map V.int))) pA (.lst ((par2.set o (cur:Int)).map V.int)) l=some (.lst (ordV st2)):=by
     rw [upd_ne hlp,upd_ne hld]
     exact hl3
    have hcr:=Gp.count_reach (dep:=dep2) (o:=o) (v:=Gp.gD dep2 cur+1) (by omega) hD (by have:=(hW3.wait cur (.inr List.mem_cons_self)).2.1;omega)
    refine ⟨_,rfl,.inl ⟨rfl,_,SqL.of hl5⟩,_,rfl,l,_,_,rfl,rfl,hl5,by rw [List.length_map];exact small1000' (by omega),?_⟩
    rw [ordV_snoc]
    refine ⟨_,_,st2++[o],(fun p=>if p=o then root else rt2 p),_,rfl,hF5.setX hl5 hl0 hld hlp,upd_same,?_,fun p z=>Gp.Ext.set (by omega) (by have:=(hW3.wait cur (.inr List.mem_cons_self)).2.1;omega) p (hE3 p z),?_⟩
    ·rw [take_snoc eo]
     exact hW3.new hN hadj hD
    ·rw [List.length_append]
     simp only [List.length_cons,List.length_nil]
     omega
   ·refine ⟨_,_,st2,rt2,_,rfl,hF3,hl3,?_,hE3,hc3⟩
    rw [take_snoc eo]
    exact hW3.old hN hadj fun z=>he (by rw [z])
  ·rintro σ H2 ⟨dep2,par2,st2,rt2,v4',rfl,hF3,hl3,hW3,hE3,hc3⟩
   rw [List.length_map,List.take_length] at hW3
   refine ⟨dep2.count (-1)+st2.length,?_,dep2,par2,st2,rt2,_,_,rfl,rfl,hF3,hl3,hW3.close,hE3,by omega⟩
   rw [List.length_append]
   simp only [List.length_cons,List.length_nil]
   omega
def sp_grow(Z:Adr):Sp:=fun vs H Q _=>∃ (H0:Hp) (q nA dA pA:Addr) (nbs:List Addr) (nb:List (List Nat)) (n:Nat),vs=[.ref q] /\ Fk Z H0 H q nA dA pA nbs nb (List.replicate n (-1)) (List.replicate n (-1)) /\ Gp.Nbs nb n /\ n <= 200 /\
 ∀ (dep par:List Int) (rt:Nat->Nat) (H':Hp),Fk Z H0 H' q nA dA pA nbs nb dep par->Gp.Fo nb n dep par rt->Q .non H'
theorem sc_Forest_grow:FnScope ["self", "root"] ["self"] (defScope s_Forest_grow):=⟨rfl,rfl,rfl,by decide +kernel,rfl,by decide +kernel,by decide +kernel⟩
theorem m_grow(T:Tx K mg Z):CtrM P w K mg base CX0 2 Z.cForest "grow" ["self"] (sp_grow Z):=by
 refine ctrM_of T.k_Forest T.m_Forest_grow fun f fd F=>F.ok sc_Forest_grow (fun vs H Q E h=>?_) (fun cdv A outer s H vs Q E hr h=>?_)
 ·obtain ⟨H0,q,nA,dA,pA,nbs,nb,n,rfl,_⟩:=h
  rfl
 ·obtain ⟨H0,q,nA,dA,pA,nbs,nb,n,rfl,hF,hN,hn,kQ⟩:=h
  refine' ⟨_,?hterm,?_⟩
  case hterm=>
   refine' pss_one ?q1
   case' q1=>refine' ps_for HP rfl ?q2 ?q3 ?q4
   case q2=>
    refine' pi_range1 rfl T.n_range ?q5
    case' q5=>refine' pa_cons ?q6 pa_nil
    case' q6=>refine' pe_callB (callK_len (K:=K) (by rfl)) (by rfl) T.n_len b_len ?q7
    case' q7=>refine' pa_cons ?q8 pa_nil
    case q8=>exact pe_fldK (K:=K) (by rfl) (pv 0) rfl
   case q3=>exact pg_name (i:=1) sc_Forest_grow.nd (by rfl) (by exact Or.inl rfl)
   case' q4=>refine' pss_one ?q9
   case' q9=>refine' ps_if ?q10 ?q11 pss_nil
   case q10=>
    refine' pt_cmpR (op_eqK (K:=K) (by rfl) (by exact hr.units)) ?q12 ?q13 (nomark _)
    case q12=>
     refine' pe_ix (ix_K (K:=K) (by rfl)) ?q14 (pv 1) (fun _ _=>rfl)
     case q14=>exact pe_fldK (K:=K) (by rfl) (pv 0) rfl
    case q13=>exact pe_un un_neg pe_int
   case' q11=>refine' pss_cons ?q15 ?q16
   case q15=>
    refine' ps_asg pe_int ?q17
    case' q17=>refine' pg_sub ?q18 (pv 1) set_list
    case q18=>exact pe_fldK (K:=K) (by rfl) (pv 0) rfl
   case' q16=>refine' pss_one ?q19
   case' q19=>refine' ps_expr ?q20
   case' q20=>refine' pe_methC (pv 0) (m_grow_from T) (hr.mono (by decide)) ?q21
   case q21=>exact pa_cons (pv 1) pa_nil
  obtain ⟨dq,hq⟩:=hF.ins
  have hnl:nbs.length=n:=by rw [hF.len,hN.len]
  have hg:∀ p,Gp.gD (List.replicate n (-1)) p=-1:=fun p=>by
   show (List.replicate n (-1:Int)).getD p (-1)=-1
   rw [List.getD_eq_getElem?_getD,List.getElem?_replicate]
   split<;>rfl
  refine ⟨_,rfl,q,_,dq,_,_,rfl,hq,T.k_Forest,T.a_Forest_neighbours,fof_neighbours _ _ _,_,_,rfl,.inl ⟨_,SqL.of (hF.same _ _ hF.stk),rfl⟩,_,rfl,?_,?_,?_⟩
  ·rw [List.length_map];omega
  ·rw [List.length_map];omega
  rw [List.length_map,Int.toNat_natCast,hnl]
  refine for_range (lo:=0) (n:=n) (fun i σ H1=>∃ (dep par:List Int) (rt:Nat->Nat) (v1:Option V),σ=[some (.ref q),v1] /\ Fk Z H0 H1 q nA dA pA nbs nb dep par /\ Gp.F nb n dep par rt /\ Gp.Cl nb n dep rt (fun _=>False) /\ ∀ p,p < i->0 <= Gp.gD dep p)
   ⟨_,_,fun p=>p,none,rfl,hF,⟨List.length_replicate,List.length_replicate,fun p _ z=>?_,fun p _ z=>rfl,fun p hp=>?_⟩,fun p _ z=>?_,fun p hp=>by omega⟩ ?_ ?_
  ·rw [hg] at z;omega
  ·rw [hg,List.count_replicate_self];omega
  ·rw [hg] at z;omega
  ·rintro i σ H1 hi ⟨dep,par,rt,v1,rfl,hF1,hf1,hcl1,hall⟩
   rw [show (0:Int)+(i:Int)=(i:Int) from Int.zero_add _]
   obtain ⟨dq1,hq1⟩:=hF1.ins
   have hdl:=hf1.dl
   refine ⟨_,rfl,q,_,dq1,_,_,rfl,hq1,T.k_Forest,T.a_Forest_depths,fof_depths _ _ _,_,rfl,.inl ⟨dA,_,(i:Int),_,rfl,rfl,SqL.of hF1.d,atI_nat (gD_at (by omega)),?_⟩⟩
   refine ⟨1,rfl,.inl ⟨rfl,_,rfl,?_⟩⟩
   refine iteDB (fun he=>?_) (fun he=>?_)
   ·have hD:Gp.gD dep i=-1:=V.int.inj he
    refine ⟨_,rfl,q,_,dq1,_,_,rfl,hq1,T.k_Forest,T.a_Forest_depths,fof_depths _ _ _,_,rfl,dA,_,(i:Int),i,rfl,rfl,hF1.d,ixN_nat (by rw [List.length_map];omega),?_⟩
    rw [<- List.map_set]
    have hF2:=hF1.setD (dep.set i 0)
    obtain ⟨dq2,hq2⟩:=hF2.ins
    have hcr:=Gp.count_reach (dep:=dep) (o:=i) (v:=0) (by omega) hD (by omega)
    have hcn:dep.count (-1) <= n:=hdl ▸ List.count_le_length
    refine ⟨_,rfl,q,dq2,_,rfl,hq2,(fof_no _ _ _).2.1,_,rfl,H0,q,nA,dA,pA,nbs,nb,dep.set i 0,par,n,i,_,rfl,hF2,hN,hn,Gp.W.start hN hf1 hcl1 hi hD,by omega,fun dep' par' rt' H3 hF3 hW3 hE3=>?_⟩
    refine ⟨dep',par',rt',_,rfl,hF3,hW3.f,fun p a b c=>hW3.cl p a b (by simp),fun p hp=>?_⟩
    refine hE3 p ?_
    rw [Gp.gD_set (by omega)]
    split
    ·exact Int.le_refl _
    ·exact hall p (by omega)
   ·refine ⟨dep,par,rt,_,rfl,hF1,hf1,hcl1,fun p hp=>?_⟩
    by_cases hpi:p=i
    ·have:=(hf1.bd p (by omega)).1
     have:Gp.gD dep p≠-1:=fun z=>he (by rw [<- hpi,z])
     omega
    ·exact hall p (by omega)
  ·rintro σ H1 ⟨dep,par,rt,v1,rfl,hF1,hf1,hcl1,hall⟩
   exact kQ dep par rt H1 hF1 ⟨hf1,hcl1,hall⟩
end
end My
namespace My
open PySem L2
theorem cutV_but(xs:List V):cutV xs none (some (-1))=xs.dropLast:=by
 unfold cutV
 have e:HT.sIx xs.length xs.length (some (-1))=xs.length - 1:=by
  show (if (-1:Int) < 0 then ((-1:Int)+(xs.length:Int)).toNat else min (-1:Int).toNat xs.length)=_
  rw [if_pos (by decide)]
  omega
 rw [HT.sIx_none,e,List.drop_zero,Nat.sub_zero,List.dropLast_eq_take]
section
variable {P:Program} {w:World} {K:PySem.W.Frag} {mg:Str->Option Value} {base:Heap} {Z:Adr}
def sp_path(Z:Adr):Sp:=fun vs H Q _=>∃ (H0:Hp) (q nA dA pA:Addr) (nbs:List Addr) (nb:List (List Nat)) (dep par:List Int) (n c d:Nat) (rt:Nat->Nat),vs=[.ref q,.int (c:Int),.int (d:Int)] /\ Fk Z H0 H q nA dA pA nbs nb dep par /\ Gp.Nbs nb n /\ n <= 200 /\ Gp.Fo nb n dep par rt /\ c < n /\ d < n /\ rt c=rt d /\
 ∀ (l:Addr) (H':Hp) (ring:List Nat) (z:Int),Same H H'->H l=none->H' l=some (.lst (ordV ring))->Gp.Ring nb n c d ring->(ring.length:Int)=Gp.gD dep c+Gp.gD dep d - 2*z+1->Q (.ref l) H'
theorem sc_Forest_path:FnScope ["self", "one", "other", "from_one", "from_other"] ["self", "one", "other"] (defScope s_Forest_path):=⟨rfl,rfl,rfl,by decide +kernel,rfl,by decide +kernel,by decide +kernel⟩
theorem m_path(T:Tx K mg Z):CtrM P w K mg base CX0 1 Z.cForest "path" ["self", "one", "other"] (sp_path Z):=by
 refine ctrM_of T.k_Forest T.m_Forest_path fun f fd F=>F.ok sc_Forest_path (fun vs H Q E h=>?_) (fun cdv A outer s H vs Q E hr h=>?_)
 ·obtain ⟨H0,q,nA,dA,pA,nbs,nb,dep,par,n,c,d,rt,rfl,_⟩:=h
  rfl
 ·obtain ⟨H0,q,nA,dA,pA,nbs,nb,dep,par,n,c,d,rt,rfl,hF,hN,hn,hO,hc,hd,hrt,kQ⟩:=h
  refine' ⟨_,?hterm,?_⟩
  case hterm=>
   refine' pss_cons ?q1 ?q2
   case q1=>
    refine' ps_set (i:=3) sc_Forest_path.nd rfl (Or.inl rfl) ?q3
    case' q3=>refine' pe_lst ?q4
    case q4=>exact pa_cons (pv 1) pa_nil
   case' q2=>refine' pss_cons ?q5 ?q6
   case q5=>
    refine' ps_set (i:=4) sc_Forest_path.nd rfl (Or.inl rfl) ?q7
    case' q7=>refine' pe_lst ?q8
    case q8=>exact pa_cons (pv 2) pa_nil
   case' q6=>refine' pss_cons ?q9 ?q10
   case q9=>
    refine' ps_while HP ?q11 ?q12
    case q11=>
     refine' pt_cmpR (op_neK (K:=K) (by rfl) (by exact hr.units)) ?q13 ?q14 (nomark _)
     case q13=>
      refine' pe_ix (ix_K (K:=K) (by rfl)) (pv 3) ?q15 (fun _ _=>rfl)
      case q15=>exact pe_un un_neg pe_int
     case' q14=>refine' pe_ix (ix_K (K:=K) (by rfl)) (pv 4) ?q16 (fun _ _=>rfl)
     case q16=>exact pe_un un_neg pe_int
    case' q12=>refine' pss_one ?q17
    case' q17=>refine' ps_if ?q18 ?q19 ?q20
    case q18=>
     refine' pt_cmpR op_ge ?q21 ?q22 (nomark _)
     case q21=>
      refine' pe_ix (ix_K (K:=K) (by rfl)) ?q23 ?q24 (fun _ _=>rfl)
      case q23=>exact pe_fldK (K:=K) (by rfl) (pv 0) rfl
      case' q24=>refine' pe_ix (ix_K (K:=K) (by rfl)) (pv 3) ?q25 (fun _ _=>rfl)
      case q25=>exact pe_un un_neg pe_int
     case' q22=>refine' pe_ix (ix_K (K:=K) (by rfl)) ?q26 ?q27 (fun _ _=>rfl)
     case q26=>exact pe_fldK (K:=K) (by rfl) (pv 0) rfl
     case' q27=>refine' pe_ix (ix_K (K:=K) (by rfl)) (pv 4) ?q28 (fun _ _=>rfl)
     case q28=>exact pe_un un_neg pe_int
    case q19=>
     refine' pss_one ?q29
     case' q29=>refine' ps_expr ?q30
     case' q30=>refine' pe_bmK (K:=K) (by rfl) PySem.F.plainAttrs_list PySem.F.slot_list_append PySem.F.type_list_append mt_append (pv 3) ?q31
     case' q31=>refine' pa_cons ?q32 pa_nil
     case' q32=>refine' pe_ix (ix_K (K:=K) (by rfl)) ?q33 ?q34 (fun _ _=>rfl)
     case q33=>exact pe_fldK (K:=K) (by rfl) (pv 0) rfl
     case' q34=>refine' pe_ix (ix_K (K:=K) (by rfl)) (pv 3) ?q35 (fun _ _=>rfl)
     case q35=>exact pe_un un_neg pe_int
    case' q20=>refine' pss_one ?q36
    case' q36=>refine' ps_expr ?q37
    case' q37=>refine' pe_bmK (K:=K) (by rfl) PySem.F.plainAttrs_list PySem.F.slot_list_append PySem.F.type_list_append mt_append (pv 4) ?q38
    case' q38=>refine' pa_cons ?q39 pa_nil
    case' q39=>refine' pe_ix (ix_K (K:=K) (by rfl)) ?q40 ?q41 (fun _ _=>rfl)
    case q40=>exact pe_fldK (K:=K) (by rfl) (pv 0) rfl
    case' q41=>refine' pe_ix (ix_K (K:=K) (by rfl)) (pv 4) ?q42 (fun _ _=>rfl)
    case q42=>exact pe_un un_neg pe_int
   case' q10=>refine' pss_one ?q43
   case' q43=>refine' ps_ret ?q44
   case' q44=>refine' pe_op (op_addK (K:=K) (by rfl)) (pv 3) ?q45
   case' q45=>refine' pe_listRev ?q46 rfl (by rfl) T.n_list (by rfl) T.n_reversed
   case' q46=>refine' pe_slice (sl_K (K:=K) (by rfl)) (pv 4) po_none ?q47
   case' q47=>refine' po_some ?q48
   case q48=>exact pe_un un_neg pe_int
  refine ⟨_,rfl,(by show 1 <= sizeLine;decide),fun l1 hl1=>?_⟩
  refine ⟨_,rfl,(by show 1 <= sizeLine;decide),fun l2 hl2=>?_⟩
  have h12:l1≠l2:=ne_of_none upd_same hl2
  have hl2':H l2=none:=(Same.upd hl1).free hl2
  have hdl:=hO.f.dl
  have hpl:=hO.f.pl
  refine ⟨fun m σ H1=>∃ (i1 i2:List Nat) (a b:Nat),m=(Gp.gD dep a+Gp.gD dep b).toNat /\ σ=[some (.ref q),some (.int (c:Int)),some (.int (d:Int)),some (.ref l1),some (.ref l2)] /\ Same H H1 /\ H1 l1=some (.lst (ordV (i1++[a]))) /\ H1 l2=some (.lst (ordV (i2++[b]))) /\ Gp.Pt nb n dep rt c d i1 a i2 b,
   ⟨_,[],[],c,d,rfl,rfl,(Same.upd hl1).trans (Same.upd hl2),upd_get upd_same hl2,upd_same,⟨hc,hd,fun v z=>(by cases z),fun v z=>(by cases z),trivial,trivial,rfl,rfl,by simp,by simp,hrt,fun v z=>(by cases z),fun v z=>(by cases z),.nil,.nil,fun v z=>(by cases z),fun v z=>(by cases z)⟩⟩,?_⟩
  rintro m σ H1 ⟨i1,i2,a,b,rfl,rfl,s1,e1,e2,hP⟩
  have la:atI (ordV (i1++[a])) (-1)=some (.int (a:Int)):=by rw [<- ordV_snoc];exact atI_last _ _
  have lb:atI (ordV (i2++[b])) (-1)=some (.int (b:Int)):=by rw [<- ordV_snoc];exact atI_last _ _
  have hF1:=hF.sameH s1
  obtain ⟨dq,hq⟩:=hF1.ins
  have a0:=hO.all a hP.an
  have b0:=hO.all b hP.bn
  have bc:=hO.f.bd c hc
  have bd:=hO.f.bd d hd
  have d1:=hP.d1
  have d2:=hP.d2
  refine ⟨_,rfl,1,rfl,.inl ⟨l1,_,-1,.int (a:Int),rfl,rfl,SqL.of e1,la,?_⟩⟩
  refine ⟨_,rfl,1,rfl,.inl ⟨l2,_,-1,.int (b:Int),rfl,rfl,SqL.of e2,lb,?_⟩⟩
  refine .inl ⟨rfl,_,rfl,?_⟩
  refine iteNB (fun hne=>?_) (fun heq=>?_)
  ·have hab:a≠b:=fun z=>hne (by rw [z])
   refine ⟨fun σ' H'=>∃ m',m' < (Gp.gD dep a+Gp.gD dep b).toNat /\ ∃ (i1 i2:List Nat) (a b:Nat),m'=(Gp.gD dep a+Gp.gD dep b).toNat /\ σ'=[some (.ref q),some (.int (c:Int)),some (.int (d:Int)),some (.ref l1),some (.ref l2)] /\ Same H H' /\ H' l1=some (.lst (ordV (i1++[a]))) /\ H' l2=some (.lst (ordV (i2++[b]))) /\ Gp.Pt nb n dep rt c d i1 a i2 b,fun σ' H' z=>z,?_⟩
   have pan:=hP.an
   have pbn:=hP.bn
   refine ⟨_,rfl,q,_,dq,_,_,rfl,hq,T.k_Forest,T.a_Forest_depths,fof_depths _ _ _,_,rfl,1,rfl,.inl ⟨l1,_,-1,.int (a:Int),rfl,rfl,SqL.of e1,la,?_⟩⟩
   refine .inl ⟨dA,_,(a:Int),_,rfl,rfl,SqL.of hF1.d,atI_nat (gD_at (by omega)),?_⟩
   refine ⟨_,rfl,q,_,dq,_,_,rfl,hq,T.k_Forest,T.a_Forest_depths,fof_depths _ _ _,_,rfl,1,rfl,.inl ⟨l2,_,-1,.int (b:Int),rfl,rfl,SqL.of e2,lb,?_⟩⟩
   refine .inl ⟨dA,_,(b:Int),_,rfl,rfl,SqL.of hF1.d,atI_nat (gD_at (by omega)),?_⟩
   refine ⟨_,_,rfl,rfl,_,rfl,?_⟩
   by_cases hge:Gp.gD dep a >= Gp.gD dep b
   ·refine iteDT hge ?_
    obtain ⟨a',p1,p2,hP'⟩:=hP.one hN hO hab hge
    have a0':=hO.all a' hP'.an
    refine ⟨_,rfl,.inl ⟨rfl,_,SqL.of e1⟩,?_⟩
    refine ⟨_,rfl,q,_,dq,_,_,rfl,hq,T.k_Forest,T.a_Forest_parents,fof_parents _ _ _,_,rfl,1,rfl,.inl ⟨l1,_,-1,.int (a:Int),rfl,rfl,SqL.of e1,la,?_⟩⟩
    refine .inl ⟨pA,_,(a:Int),_,rfl,rfl,SqL.of hF1.p,atI_nat (gD_at (by omega)),?_⟩
    rw [p1]
    refine ⟨l1,_,_,rfl,rfl,e1,by rw [List.length_map,List.length_append];simp only [List.length_cons,List.length_nil];exact small1000' (by omega),?_⟩
    rw [ordV_snoc]
    exact ⟨(Gp.gD dep a'+Gp.gD dep b).toNat,by omega,i1++[a],i2,a',b,rfl,rfl,Same.updN s1 hl1,upd_same,by rw [upd_ne h12.symm];exact e2,hP'⟩
   ·refine iteDF hge ?_
    obtain ⟨b',p1,p2,hP'⟩:=hP.two hN hO hab (by omega)
    have b0':=hO.all b' hP'.bn
    refine ⟨_,rfl,.inl ⟨rfl,_,SqL.of e2⟩,?_⟩
    refine ⟨_,rfl,q,_,dq,_,_,rfl,hq,T.k_Forest,T.a_Forest_parents,fof_parents _ _ _,_,rfl,1,rfl,.inl ⟨l2,_,-1,.int (b:Int),rfl,rfl,SqL.of e2,lb,?_⟩⟩
    refine .inl ⟨pA,_,(b:Int),_,rfl,rfl,SqL.of hF1.p,atI_nat (gD_at (by omega)),?_⟩
    rw [p1]
    refine ⟨l2,_,_,rfl,rfl,e2,by rw [List.length_map,List.length_append];simp only [List.length_cons,List.length_nil];exact small1000' (by omega),?_⟩
    rw [ordV_snoc]
    exact ⟨(Gp.gD dep a+Gp.gD dep b').toNat,by omega,i1,i2++[b],a,b',rfl,rfl,Same.updN s1 hl2',by rw [upd_ne h12];exact e1,upd_same,hP'⟩
  ·have hab:a=b:=by have:=V.int.inj heq;omega
   subst hab
   refine ⟨_,rfl,_,rfl,1,rfl,_,rfl,l2,_,rfl,SqL.of e2,fun u hu=>?_⟩
   have ecut:cutV (ordV (i2++[a])) none (some (-1))=ordV i2:=by rw [cutV_but,<- ordV_snoc,List.dropLast_concat]
   have s2:=Same.upd (o:=.lst (cutV (ordV (i2++[a])) none (some (-1)))) hu
   refine ⟨u,_,rfl,upd_same,fun v hv=>?_⟩
   have s3:=Same.upd (o:=.lst (cutV (ordV (i2++[a])) none (some (-1))).reverse) hv
   refine .inr (.inl ⟨l1,v,_,_,rfl,rfl,s3 _ _ (s2 _ _ e1),upd_same,?_,fun x hx=>?_⟩)
   ·rw [ecut,List.length_reverse,List.length_map,List.length_map,List.length_append]
    exact Nat.le_of_lt (small1000' (by simp only [List.length_cons,List.length_nil];omega))
   obtain ⟨g1,g2⟩:=hP.ring hN
   refine kQ x _ (i1++[a]++i2.reverse) (Gp.gD dep a) (((s1.trans s2).trans s3).trans (Same.upd hx)) (((s1.trans s2).trans s3).free hx) ?_ g1 g2
   rw [upd_same]
   show some (HO.lst (ordV (i1++[a])++(cutV (ordV (i2++[a])) none (some (-1))).reverse))=_
   rw [ecut]
   show some (HO.lst (List.map (fun (p:Nat)=>V.int (p:Int)) (i1++[a])++(List.map (fun (p:Nat)=>V.int (p:Int)) i2).reverse))=some (HO.lst (List.map (fun (p:Nat)=>V.int (p:Int)) (i1++[a]++i2.reverse)))
   rw [<- List.map_reverse,List.map_append (l₂:=i2.reverse)]
theorem by_of{T:List Int}{ord:List Nat}(hT:T.Nodup)(h:Rank T ord):Gp.By T ord:=by
 refine ⟨h.ord,fun p q hp hq=>⟨fun hl=>?_,fun hl=>h.lt hT _ _ p q hl (h.ord.at_ hp) (h.ord.at_ hq)⟩⟩
 rcases Nat.lt_trichotomy (ord.idxOf p) (ord.idxOf q) with z | z | z
 ·exact z
 ·rw [h.ord.inj hp hq z] at hl;omega
 ·have:=h.lt hT _ _ q p z (h.ord.at_ hq) (h.ord.at_ hp);omega
theorem nbs_of{T:List Int}{nb:List (List Nat)}(g:Gp.Gr T nb):Gp.Nbs nb T.length:=by
 refine ⟨g.len,g.sym,fun a b h=>?_⟩
 obtain ⟨_,_,k,h1,h2,_⟩:=g.od a b h
 omega
def sp_forest(Z:Adr):Sp:=fun vs H Q _=>∃ (wg lv:Addr) (T:List Int) (ord:List Nat),vs=[.ref wg,.ref lv] /\ H wg=some (.lst (T.map V.int)) /\ H lv=some (.lst (ordV ord)) /\ T.Nodup /\ Rank T ord /\ T.length < 200 /\
 ∀ (q nA dA pA:Addr) (nbs:List Addr) (nb:List (List Nat)) (dep par:List Int) (rt:Nat->Nat) (H0 H':Hp),Same H H'->H q=none->Fk Z H0 H' q nA dA pA nbs nb dep par->Gp.Fo nb T.length dep par rt->Gp.Gr T nb->(∀ a b,Gp.Od T a b->Gp.Conn nb a b)->Q (.ref q) H'
theorem sc_forest_at_odds:FnScope ["wagons", "leaving", "groups", "gone", "place", "forest"] ["wagons", "leaving"] (defScope s_forest_at_odds):=⟨rfl,rfl,rfl,by decide +kernel,rfl,by decide +kernel,by decide +kernel⟩
theorem C_forest_at_odds(T:Tx K mg Z):Ctr P w K mg base CX0 3 "forest_at_odds" ["wagons", "leaving"] (sp_forest Z):=by
 refine ctr_of T.forest_at_odds fun f fd F=>F.ok sc_forest_at_odds (fun vs H Q E h=>?_) (fun cdv A outer s H vs Q E hr h=>?_)
 ·obtain ⟨wg,lv,T,ord,rfl,_⟩:=h
  rfl
 ·obtain ⟨wg,lv,tr,ord,rfl,hwg,hlv,hnd,hR,hn,kQ⟩:=h
  refine' ⟨_,?hterm,?_⟩
  case hterm=>
   refine' pss_cons ?q1 ?q2
   case q1=>
    refine' ps_set (i:=2) sc_forest_at_odds.nd rfl (Or.inl rfl) ?q3
    case' q3=>refine' pe_makeC (M_Groups T) (hr.mono (by decide)) rfl ?q4
    case q4=>exact pa_cons (pv 0) pa_nil
   case' q2=>refine' pss_cons ?q5 ?q6
   case q5=>exact ps_set (i:=3) sc_forest_at_odds.nd rfl (Or.inl rfl) pe_int
   case' q6=>refine' pss_cons ?q7 ?q8
   case q7=>
    refine' ps_for HP rfl ?q9 ?q10 ?q11
    case q9=>
     refine' pi_range1 rfl T.n_range ?q12
     case' q12=>refine' pa_cons ?q13 pa_nil
     case' q13=>refine' pe_callB (callK_len (K:=K) (by rfl)) (by rfl) T.n_len b_len ?q14
     case q14=>exact pa_cons (pv 0) pa_nil
    case q10=>exact pg_name (i:=4) sc_forest_at_odds.nd (by rfl) (by exact Or.inl rfl)
    case' q11=>refine' pss_cons ?q15 ?q16
    case q15=>
     refine' ps_expr ?q17
     case' q17=>refine' pe_methC (pv 2) (m_let_come T) (hr.mono (by decide)) ?q18
     case q18=>exact pa_cons (pv 4) pa_nil
    case' q16=>refine' pss_one ?q19
    case' q19=>refine' ps_while HP ?q20 ?q21
    case q20=>
     refine' PW.pt ?q22
     case' q22=>refine' pw_and ?q23 ?q24
     case q23=>
      refine' pt_cmpR op_lt (pv 3) ?q25 (nomark _)
      case' q25=>refine' pe_callB (callK_len (K:=K) (by rfl)) (by rfl) T.n_len b_len ?q26
      case q26=>exact pa_cons (pv 1) pa_nil
     case' q24=>refine' pw_and1 ?q27
     case' q27=>refine' pt_cmpR op_le ?q28 (pv 4) (nomark _)
     case q28=>exact pe_ix (ix_K (K:=K) (by rfl)) (pv 1) (pv 3) (fun _ _=>rfl)
    case' q21=>refine' pss_cons ?q29 ?q30
    case q29=>
     refine' ps_expr ?q31
     case' q31=>refine' pe_methC (pv 2) (m_let_leave T) (hr.mono (by decide)) ?q32
     case' q32=>refine' pa_cons ?q33 pa_nil
     case q33=>exact pe_ix (ix_K (K:=K) (by rfl)) (pv 1) (pv 3) (fun _ _=>rfl)
    case' q30=>refine' pss_one ?q34
    case q34=>exact ps_aug (i:=3) sc_forest_at_odds.nd rfl (Or.inl rfl) pe_int ip_add
   case' q8=>refine' pss_cons ?q35 ?q36
   case q35=>
    refine' ps_set (i:=5) sc_forest_at_odds.nd rfl (Or.inl rfl) ?q37
    case' q37=>refine' pe_makeC (M_Forest T) (hr.mono (by decide)) rfl ?q38
    case' q38=>refine' pa_cons ?q39 pa_nil
    case q39=>exact pe_fldK (K:=K) (by rfl) (pv 2) rfl
   case' q36=>refine' pss_cons ?q40 ?q41
   case q40=>
    refine' ps_expr ?q42
    case q42=>exact pe_methC0 (pv 5) (m_grow T) (hr.mono (by decide))
   case' q41=>refine' pss_one ?q43
   case q43=>exact ps_ret (pv 5)
  have hB:=by_of hnd hR
  have ol:ord.length=tr.length:=by rw [hR.perm.length_eq,List.length_range]
  refine ⟨_,rfl,fun q dq hq hdq hne=>⟨q,dq,wg,tr,rfl,upd_same,?_,by omega,fun nA pr nbs H3 k1 k2 k3 k4 k5 k6 k7 k8 k9 k10=>⟨rfl,?_⟩⟩⟩
  ·rw [upd_ne (ne_of_none hwg hq),upd_ne (ne_of_none hwg hdq)]
   exact hwg
  have s3:Same H H3:=fun c o e=>k1 c o (by rw [upd_ne (ne_of_none e hq),upd_ne (ne_of_none e hdq)];exact e) (ne_of_none e hq)
  have fre:∀ c,upd (upd H dq (.own q)) q (.ins Z.cGroups dq []) c=none->H c=none:=fun c e=>by
   have h1:c≠q:=fun z=>by rw [z,upd_same] at e;cases e
   rw [upd_ne h1] at e
   have h2:c≠dq:=fun z=>by rw [z,upd_same] at e;cases e
   rw [upd_ne h2] at e
   exact e
  have hG:Gk Z H H3 q wg nA pr nbs tr (List.replicate tr.length []) []:=by
   refine ⟨⟨dq,k2⟩,hwg,k3,by rw [k4];exact List.length_replicate.symm,fun t a e=>?_,k6,⟨[],k7,.nil⟩,hq,fre _ k8,fre _ k9,k10,s3⟩
   obtain ⟨z1,z2,z3,z4⟩:=k5 t a e
   refine ⟨?_,fre _ z2,z3,z4⟩
   rw [z1,List.getD_eq_getElem?_getD,List.getElem?_replicate]
   split<;>rfl
  refine ⟨_,rfl,_,_,rfl,.inl ⟨_,SqL.of (s3 _ _ hwg),rfl⟩,_,rfl,?_,?_,?_⟩
  ·rw [List.length_map];omega
  ·rw [List.length_map];omega
  rw [List.length_map,Int.toNat_natCast]
  refine for_range (lo:=0) (n:=tr.length) (fun i σ H1=>∃ (nb:List (List Nat)) (ps:List (Nat × Nat)) (g:Nat) (v4 v5:Option V),σ=[some (.ref wg),some (.ref lv),some (.ref q),some (.int (g:Int)),v4,v5] /\ Gk Z H H1 q wg nA pr nbs tr nb ps /\ Gp.J tr ord i g ps.reverse nb /\ g <= tr.length /\ (∀ p,ord[g]?=some p->i <= p))
   ⟨_,[],0,none,none,rfl,hG,Gp.J.start,Nat.zero_le _,fun p _=>Nat.zero_le _⟩ ?_ ?_
  ·rintro i σ H1 hi ⟨nb,ps,g,v4,v5,rfl,hG1,hJ,hg,hst⟩
   rw [show (0:Int)+(i:Int)=(i:Int) from Int.zero_add _]
   obtain ⟨dq1,hq1⟩:=hG1.ins
   obtain ⟨e0,b1,b2⟩:=hJ.bnd
   rw [List.length_reverse] at b2
   refine ⟨_,rfl,q,dq1,_,rfl,hq1,(grf_no _ _ _).1,_,rfl,H,q,wg,nA,pr,nbs,tr,nb,ps,i,rfl,hG1,by omega,fun H2 hG2=>?_⟩
   have hJ2:Gp.J tr ord (i+1) g (ps++[(i,i)]).reverse nb:=by rw [List.reverse_append];exact hJ.come hB hi hst
   refine ⟨fun m σ H'=>∃ (nb:List (List Nat)) (ps:List (Nat × Nat)) (g:Nat),m=tr.length - g /\ σ=[some (.ref wg),some (.ref lv),some (.ref q),some (.int (g:Int)),some (.int (i:Int)),v5] /\ Gk Z H H' q wg nA pr nbs tr nb ps /\ Gp.J tr ord (i+1) g ps.reverse nb /\ g <= tr.length,
    ⟨_,nb,ps++[(i,i)],g,rfl,rfl,hG2,hJ2,hg⟩,?_⟩
   rintro m σ H4 ⟨nb4,ps4,g4,rfl,rfl,hG4,hJ4,hg4⟩
   have hlv4:=hG4.same _ _ hlv
   refine ⟨_,rfl,_,rfl,_,_,rfl,.inl ⟨_,SqL.of hlv4,rfl⟩,_,_,rfl,rfl,_,rfl,?_⟩
   by_cases hlt:g4 < ord.length
   ·obtain ⟨wd,ew⟩:∃ wd,ord[g4]?=some wd:=⟨_,List.getElem?_eq_getElem hlt⟩
    have eix:atI (ordV ord) (g4:Int)=some (.int (wd:Int)):=atI_nat (by rw [List.getElem?_map,ew];rfl)
    refine iteDT (by rw [List.length_map];omega) ?_
    refine ⟨_,rfl,_,rfl,.inl ⟨lv,_,(g4:Int),.int (wd:Int),rfl,rfl,SqL.of hlv4,eix,?_⟩⟩
    refine ⟨_,rfl,_,_,rfl,rfl,_,rfl,?_⟩
    by_cases hle:wd <= i
    ·rw [decide_eq_true (show (wd:Int) <= (i:Int) by omega)]
     refine iteT ?_
     refine ⟨fun σ' H'=>∃ m',m' < tr.length - g4 /\ ∃ (nb:List (List Nat)) (ps:List (Nat × Nat)) (g:Nat),m'=tr.length - g /\ σ'=[some (.ref wg),some (.ref lv),some (.ref q),some (.int (g:Int)),some (.int (i:Int)),v5] /\ Gk Z H H' q wg nA pr nbs tr nb ps /\ Gp.J tr ord (i+1) g ps.reverse nb /\ g <= tr.length,fun σ' H' z=>z,?_⟩
     obtain ⟨dq4,hq4⟩:=hG4.ins
     obtain ⟨nb5,rp5,hlv5,hJ5⟩:=hJ4.leave hB (by omega) ew (by omega)
     obtain ⟨e4,c1,c2⟩:=hJ4.bnd
     rw [List.length_reverse] at c2
     refine ⟨_,rfl,q,dq4,_,rfl,hq4,(grf_no _ _ _).2.1,_,rfl,_,rfl,.inl ⟨lv,_,(g4:Int),.int (wd:Int),rfl,rfl,SqL.of hlv4,eix,?_⟩⟩
     refine ⟨H,q,wg,nA,pr,nbs,tr,nb4,nb5,ps4,rp5,wd,rfl,hG4,by omega,hJ4.gra.len,fun x hx=>?_,fun a=>?_,hlv5,fun H5 hG5=>?_⟩
     ·have:=(hJ4.pr x (List.mem_reverse.mpr hx)).2.1;omega
     ·have:=c1 a;omega
     refine ⟨_,rfl,_,_,rfl,rfl,?_⟩
     exact ⟨tr.length - (g4+1),by omega,nb5,rp5.reverse,g4+1,rfl,rfl,hG5,by rw [List.reverse_reverse];exact hJ5,by omega⟩
    ·rw [decide_eq_false (show ¬ (wd:Int) <= (i:Int) by omega)]
     refine iteF ?_
     exact ⟨nb4,ps4,g4,_,_,rfl,hG4,hJ4,hg4,fun p ep=>by rw [ew] at ep;cases ep;omega⟩
   ·refine iteDF (by rw [List.length_map];omega) ?_
    exact ⟨nb4,ps4,g4,_,_,rfl,hG4,hJ4,hg4,fun p ep=>by rw [List.getElem?_eq_none_iff.mpr (by omega)] at ep;cases ep⟩
  ·rintro σ H1 ⟨nb,ps,g,v4,v5,rfl,hG1,hJ,hg,hst⟩
   have hgn:g=tr.length:=by
    rcases Nat.lt_or_ge g ord.length with z | z
    ·have e1:ord[g]?=some ord[g]:=List.getElem?_eq_getElem z
     have:=hst _ e1
     have:=hB.o.lt e1
     omega
    ·omega
   subst hgn
   obtain ⟨dq1,hq1⟩:=hG1.ins
   have nl:nbs.length=tr.length:=by rw [hG1.len,hJ.gra.len]
   refine ⟨_,rfl,q,_,dq1,_,_,rfl,hq1,T.k_Groups,T.a_Groups_neighbours,grf_neighbours _ _ _,fun q2 dq2 hq2 hdq2 hne2=>⟨q2,dq2,nA,nbs.map V.ref,rfl,upd_same,?_,by rw [List.length_map];omega,fun dA pA H5 j1 j2 j3 j4 j5 j6 j7=>⟨rfl,?_⟩⟩⟩
   ·rw [upd_ne (ne_of_none hG1.stk hq2),upd_ne (ne_of_none hG1.stk hdq2)]
    exact hG1.stk
   rw [List.length_map,nl] at j3 j4
   have s5:Same H1 H5:=fun c o e=>j1 c o (by rw [upd_ne (ne_of_none e hq2),upd_ne (ne_of_none e hdq2)];exact e) (ne_of_none e hq2)
   have fre2:∀ c,upd (upd H1 dq2 (.own q2)) q2 (.ins Z.cForest dq2 []) c=none->H1 c=none:=fun c e=>by
    have h1:c≠q2:=fun z=>by rw [z,upd_same] at e;cases e
    rw [upd_ne h1] at e
    have h2:c≠dq2:=fun z=>by rw [z,upd_same] at e;cases e
    rw [upd_ne h2] at e
    exact e
   have hF:Fk Z H1 H5 q2 nA dA pA nbs nb (List.replicate tr.length (-1)) (List.replicate tr.length (-1)):=
    ⟨⟨dq2,j2⟩,hG1.stk,hG1.len,fun t a e=>(hG1.each t a e).1,j3,j4,hq2,fre2 _ j5,fre2 _ j6,j7,s5⟩
   refine ⟨_,rfl,q2,dq2,_,rfl,j2,(fof_no _ _ _).1,H1,q2,nA,dA,pA,nbs,nb,tr.length,rfl,hF,nbs_of hJ.gra,by omega,fun dep par rt H6 hF6 hFo=>?_⟩
   exact ⟨_,rfl,kQ q2 nA dA pA nbs nb dep par rt H1 H6 (hG1.same.trans hF6.same) (hG1.same.free hq2) hF6 hFo hJ.gra fun a b hab=>hJ.com a b hab (by obtain ⟨h1,_,k,h2,h3,_⟩:=hab;rw [<- ol];exact List.idxOf_lt_length_iff.mpr ((hB.o.mem a).mpr (by omega)))⟩
def odf(a b:Addr):List (Str × V):=[("places",.ref a),("shown",.ref b)]
theorem odf_new(a b:Addr):putF "shown" (.ref b) (putF "places" (.ref a) [])=odf a b:=rfl
def sp_Odd_init(C:Addr):Sp:=fun vs H Q _=>∃ (p dx a b:Addr) (xs ys:List V),vs=[.ref p,.ref a,.ref b] /\ H p=some (.ins C dx []) /\ H a=some (.lst xs) /\ H b=some (.lst ys) /\
 ∀ (u v:Addr) (H':Hp),H' p=some (.ins C dx (odf u v))->(∀ c o,H c=some o->c≠p->H' c=some o)->H' u=some (.lst xs)->H' v=some (.lst ys)->H u=none->H v=none->u≠v->Q .non H'
theorem sc_Odd_init:FnScope ["self", "places", "shown"] ["self", "places", "shown"] (defScope s_Odd_init):=⟨rfl,rfl,rfl,by decide +kernel,rfl,by decide +kernel,by decide +kernel⟩
theorem M_Odd(T:Tx K mg Z):CtrC P w K mg base CX0 1 "Odd" Z.cOdd ["self", "places", "shown"] (sp_Odd_init Z.cOdd):=by
 refine ctrC_of T.c_Odd T.i_Odd fun f fd F=>F.ok sc_Odd_init (fun vs H Q E h=>?_) (fun cdv A outer s H vs Q E hr h=>?_)
 ·obtain ⟨p,dx,a,b,xs,ys,rfl,_⟩:=h
  rfl
 ·obtain ⟨p,dx,a,b,xs,ys,rfl,hp,ha,hb,k⟩:=h
  refine' ⟨_,?hterm,?_⟩
  case hterm=>
   refine' pss_cons ?q1 ?q2
   case q1=>
    refine' ps_fldK (K:=K) (by rfl) (pv 0) ?q3 rfl
    case' q3=>refine' pe_callTy (callK_list (K:=K) (by rfl)) (by rfl) T.n_list b_list ?q4
    case q4=>exact pa_cons (pv 1) pa_nil
   case' q2=>refine' pss_one ?q5
   case' q5=>refine' ps_fldK (K:=K) (by rfl) (pv 0) ?q6 rfl
   case' q6=>refine' pe_callTy (callK_list (K:=K) (by rfl)) (by rfl) T.n_list b_list ?q7
   case q7=>exact pa_cons (pv 2) pa_nil
  have hap:a≠p:=ne_of ha hp fun w=>by cases w
  have hbp:b≠p:=ne_of hb hp fun w=>by cases w
  refine ⟨_,rfl,a,xs,rfl,.inl (SqL.of ha),fun u hu=>?_⟩
  have hup:u≠p:=(ne_of_none hp hu).symm
  refine ⟨_,rfl,p,_,dx,_,rfl,upd_get hp hu,T.k_Odd,T.a_Odd_places,(by show 0 < 1000;decide),?_⟩
  refine ⟨_,rfl,b,ys,rfl,.inl (SqL.of (by rw [upd_ne hbp];exact upd_get hb hu)),fun v hv=>?_⟩
  have hvp:v≠p:=(ne_of_none upd_same hv).symm
  have hv1:upd H u (.lst xs) v=none:=by rw [upd_ne hvp] at hv;exact hv
  refine ⟨_,rfl,p,_,dx,_,rfl,upd_get upd_same hv,T.k_Odd,T.a_Odd_shown,(by show 1 < 1000;decide),?_⟩
  rw [odf_new]
  refine k u v _ upd_same (fun c o e hc=>?_) ?_ ?_ hu ((Same.upd hu).free hv1) (ne_of_none upd_same hv1)
  ·rw [upd_ne hc]
   refine upd_get ?_ hv
   rw [upd_ne hc]
   exact upd_get e hu
  ·rw [upd_ne hup]
   refine upd_get ?_ hv
   rw [upd_ne hup,upd_same]
  ·rw [upd_ne hvp,upd_same]
inductive AnsT where
 | sh (mA:Addr) (gs:List Gm)
 | od (pA sA:Addr) (ring shw:List Nat)
def OdAt(C:Addr)(H:Hp)(p pA sA:Addr)(ring shw:List Nat):Prop:=∃ dx,H p=some (.ins C dx (odf pA sA)) /\ H pA=some (.lst (ordV ring)) /\ H sA=some (.lst (ordV shw)) /\ pA≠sA
def AnsT.At(Z:Adr)(H:Hp)(p:Addr):AnsT->Prop
 | .sh mA gs=>ShAt Z.cShunted H p mA gs /\ gs.length <= 999 /\ GOk 2 gs
 | .od pA sA ring shw=>OdAt Z.cOdd H p pA sA ring shw
def AnsT.ok(T:List Int):AnsT->Prop
 | .sh _ gs=>shuntB T true 2 gs=true
 | .od _ _ ring shw=>OddOk T ring shw
def AnsT.fresh(H:Hp):AnsT->Prop
 | .sh mA _=>H mA=none
 | .od pA sA _ _=>H pA=none /\ H sA=none
def sp_two(Z:Adr):Sp:=fun vs H Q _=>∃ (a:Addr) (T:List Int),vs=[.ref a] /\ H a=some (.lst (T.map V.int)) /\ T.Nodup /\ T.length < 200 /\ TabH Z H /\
 ∀ (p:Addr) (an:AnsT) (H':Hp),Same H H'->H p=none->an.At Z H' p->an.ok T->an.fresh H->Q (.ref p) H'
theorem sc_two_blind:FnScope ["train", "wagons", "leaving", "forest", "shunting", "ring", "lasts"] ["train"] (defScope s_two_blind):=⟨rfl,rfl,rfl,by decide +kernel,rfl,by decide +kernel,by decide +kernel⟩
theorem C_two_blind(T:Tx K mg Z):Ctr P w K mg base CX0 7 "two_blind" ["train"] (sp_two Z):=by
 refine ctr_of T.two_blind fun f fd F=>F.ok sc_two_blind (fun vs H Q E h=>?_) (fun cdv A outer s H vs Q E hr h=>?_)
 ·obtain ⟨a,T,rfl,_⟩:=h
  rfl
 ·obtain ⟨a,tr,rfl,ha,hnd,hz,hTab,k⟩:=h
  refine' ⟨_,?hterm,?_⟩
  case hterm=>
   refine' pss_cons ?q1 ?q2
   case q1=>
    refine' ps_set (i:=1) sc_two_blind.nd rfl (Or.inl rfl) ?q3
    case' q3=>refine' pe_callC (C_checked_train T) (hr.mono (by decide)) rfl ?q4
    case q4=>exact pa_cons (pv 0) pa_nil
   case' q2=>refine' pss_cons ?q5 ?q6
   case q5=>
    refine' ps_set (i:=2) sc_two_blind.nd rfl (Or.inl rfl) ?q7
    case' q7=>refine' pe_callC (C_places_in_order T) (hr.mono (by decide)) rfl ?q8
    case q8=>exact pa_cons (pv 1) pa_nil
   case' q6=>refine' pss_cons ?q9 ?q10
   case q9=>
    refine' ps_set (i:=3) sc_two_blind.nd rfl (Or.inl rfl) ?q11
    case' q11=>refine' pe_callC (C_forest_at_odds T) (hr.mono (by decide)) rfl ?q12
    case' q12=>refine' pa_cons (pv 1) ?q13
    case q13=>exact pa_cons (pv 2) pa_nil
   case' q10=>refine' pss_cons ?q14 ?q15
   case q14=>
    refine' ps_set (i:=4) sc_two_blind.nd rfl (Or.inl rfl) ?q16
    case' q16=>refine' pe_callC (C_shunted_blind T) (hr.mono (by decide)) rfl ?q17
    case' q17=>refine' pa_cons (pv 2) ?q18
    case' q18=>refine' pa_cons ?q19 ?q20
    case q19=>
     refine' pe_comp rfl (csc_of (sc:=defScope s_two_blind) (N:=["train", "wagons", "leaving", "forest", "shunting", "ring", "lasts"]) (cap:=[none]) (N':=["depth"]) rfl rfl ⟨ rfl,by decide +kernel,by decide +kernel,by decide +kernel,rfl,by decide +kernel ⟩) ?q21 (fun _ _ _ _=>?q22) (fun _ _ _ _=>pif_nil) (fun _ _ _ _=>?q23)
     case q21=>
      refine' pi_listK (K:=K) (by rfl) ?q24
      case q24=>exact pe_fldK (K:=K) (by rfl) (pv 3) rfl
     case q22=>exact pg_name (i:=0) (show List.Nodup (["depth"]:List Str) from by decide +kernel) (by rfl) (by exact Or.inl rfl)
     case q23=>exact pe_op op_mod (pv 0) pe_int
    case q20=>exact pa_cons pe_int pa_nil
   case' q15=>refine' pss_cons ?q25 ?q26
   case q25=>
    refine' ps_if ?q27 ?q28 pss_nil
    case q27=>
     refine' pt_truK (K:=K) (by rfl) ?q29 (fun _=>rfl)
     case q29=>exact pe_methC0 (pv 4) (m_is_done T) (hr.mono (by decide))
    case' q28=>refine' pss_one ?q30
    case' q30=>refine' ps_ret ?q31
    case' q31=>refine' pe_makeC (M_Shunted T) (hr.mono (by decide)) rfl ?q32
    case' q32=>refine' pa_cons ?q33 pa_nil
    case q33=>exact pe_fldK (K:=K) (by rfl) (pv 4) rfl
   case' q26=>refine' pss_cons ?q34 ?q35
   case q34=>
    refine' ps_set (i:=5) sc_two_blind.nd rfl (Or.inl rfl) ?q36
    case' q36=>refine' pe_methC (pv 3) (m_path T) (hr.mono (by decide)) ?q37
    case' q37=>refine' pa_cons ?q38 ?q39
    case q38=>exact pe_methC0 (pv 4) (m_covered T) (hr.mono (by decide))
    case' q39=>refine' pa_cons ?q40 pa_nil
    case q40=>exact pe_methC0 (pv 4) (m_cover T) (hr.mono (by decide))
   case' q35=>refine' pss_cons ?q41 ?q42
   case q41=>
    refine' ps_set (i:=6) sc_two_blind.nd rfl (Or.inr rfl) ?q43
    case' q43=>refine' pe_callC (C_last_lesser T) (hr.mono (by decide)) rfl ?q44
    case q44=>exact pa_cons (pv 2) pa_nil
   case' q42=>refine' pss_one ?q45
   case' q45=>refine' ps_ret ?q46
   case' q46=>refine' pe_makeC (M_Odd T) (hr.mono (by decide)) rfl ?q47
   case' q47=>refine' pa_cons (pv 5) ?q48
   case' q48=>refine' pa_cons ?q49 pa_nil
   case' q49=>refine' pe_comp rfl (csc_of (sc:=defScope s_two_blind) (N:=["train", "wagons", "leaving", "forest", "shunting", "ring", "lasts"]) (cap:=[none,none,some 6]) (N':=["one", "other", "lasts"]) rfl rfl ⟨ rfl,by decide +kernel,by decide +kernel,by decide +kernel,rfl,by decide +kernel ⟩) ?q50 (fun _ _ _ _=>?q51) (fun _ _ _ _=>pif_nil) (fun _ _ _ _=>?q52)
   case q50=>
    refine' pi_zipK (K:=K) (by rfl) rfl T.n_zip ?q53
    case' q53=>refine' pa_cons (pv 5) ?q54
    case' q54=>refine' pa_cons ?q55 pa_nil
    case' q55=>refine' pe_op (op_addK (K:=K) (by rfl)) ?q56 ?q57
    case q56=>
     refine' pe_slice (sl_K (K:=K) (by rfl)) (pv 5) ?q58 po_none
     case q58=>exact po_some pe_int
    case' q57=>refine' pe_slice (sl_K (K:=K) (by rfl)) (pv 5) po_none ?q59
    case q59=>exact po_some pe_int
   case q51=>
    refine' pg_tupK (K:=K) (n:=2) (by rfl) rfl ?q60
    case' q60=>refine' pgs_cons ?q61 ?q62
    case q61=>exact pg_name (i:=0) (show List.Nodup (["one", "other", "lasts"]:List Str) from by decide +kernel) (by rfl) (by exact Or.inl rfl)
    case' q62=>refine' pgs_cons ?q63 pgs_nil
    case q63=>exact pg_name (i:=1) (show List.Nodup (["one", "other", "lasts"]:List Str) from by decide +kernel) (by rfl) (by exact Or.inl rfl)
   case q52=>
    refine' pe_ix (ix_K (K:=K) (by rfl)) (pv 2) ?q64 (fun _ _=>rfl)
    case' q64=>refine' pe_callB (call_min2 rfl) (by rfl) T.n_min b_min ?q65
    case' q65=>refine' pa_cons (pv 0) ?q66
    case q66=>exact pa_cons (pv 1) pa_nil
  refine ⟨_,rfl,a,tr,rfl,ha,hz,hnd,fun wA H1 s1 f1 h1=>?_⟩
  refine ⟨_,rfl,wA,tr,rfl,h1,by omega,hTab.same s1,fun lv H2 ord s2 f2 hR h2=>?_⟩
  refine ⟨_,rfl,_,rfl,wA,lv,tr,ord,rfl,s2 _ _ h1,h2,hnd,hR,hz,fun q nA dA pA nbs nb dep par rt H0 H3 s3 f3 hF hFo hGr hcom=>?_⟩
  have hB:=by_of hnd hR
  have ol:ord.length=tr.length:=by rw [hR.perm.length_eq,List.length_range]
  obtain ⟨dq,hq⟩:=hF.ins
  have hdl:=hFo.f.dl
  refine ⟨_,rfl,_,rfl,q,_,dq,_,_,rfl,hq,T.k_Forest,T.a_Forest_depths,fof_depths _ _ _,dA,rfl,⟨_,SqL.of hF.d⟩,fun l hl=>?_⟩
  let trk:List Nat:=dep.map fun z=>(z % 2).toNat
  refine turns_list (K:=K) (a:=dA) (xs:=dep.map V.int) (fun i σ H4=>(∃ v,σ=[v]) /\ Same H3 H4 /\ H4 l=some (.lst (ordV (trk.take i))))
   ⟨⟨_,rfl⟩,Same.upd hl,upd_same⟩ (fun i σ H4 _ h=>SqL.of (h.2.1 _ _ hF.d)) ?_ ?_
  ·rintro i x σ H4 hx ⟨⟨v,rfl⟩,s4,h4⟩
   obtain ⟨z,ez,rfl⟩:=getMap hx
   have hi:=(List.getElem?_eq_some_iff.mp ez).1
   refine ⟨_,rfl,_,2,rfl,rfl,(by show (0:Int) < 2;decide),?_⟩
   refine ⟨_,h4,?_,⟨_,rfl⟩,Same.updN s4 hl,?_⟩
   ·rw [List.length_map,List.length_take]
    exact small1000' (by omega)
   ·have et:trk[i]?=some (z % 2).toNat:=by show (dep.map _)[i]?=_;rw [List.getElem?_map,ez];rfl
    rw [upd_same,take_snoc et,<- ordV_snoc,Int.toNat_of_nonneg (by omega)]
  rintro σ H4 ⟨_,s4,h4⟩
  rw [List.length_map,List.take_of_length_le (by show (dep.map _).length <= _;rw [List.length_map];exact Nat.le_refl _)] at h4
  have tg:∀ p,p < tr.length->(trk.getD p 0:Int)=Gp.gD dep p % 2:=fun p hp=>by
   have hp':p < dep.length:=by omega
   show (((dep.map fun z=>(z % 2).toNat).getD p 0:Nat):Int)=(dep.getD p (-1)) % 2
   rw [List.getD_eq_getElem?_getD,List.getElem?_map,List.getD_eq_getElem?_getD,List.getElem?_eq_getElem hp']
   show (((dep[p] % 2).toNat:Nat):Int)=dep[p] % 2
   exact Int.toNat_of_nonneg (by omega)
  have hW:Well ord trk 2 tr.length:=⟨hR.ord,ol,by show (dep.map _).length=_;rw [List.length_map];exact hdl,fun p hp=>by have:=tg p hp;omega,by omega⟩
  have hlv3:=s3 _ _ h2
  refine ⟨lv,l,ord,trk,2,tr.length,rfl,s4 _ _ hlv3,h4,hW,by decide,fun q5 sk mv sks st H5 hRun hS hsl hml hgl=>?_⟩
  have sH:Same H H5:=(((s1.trans s2).trans s3).trans s4).trans hS.same
  obtain ⟨dq5,hq5⟩:=hS.ins
  refine ⟨_,rfl,q5,dq5,_,rfl,hq5,(shf_no _ _ _ _ _).2.2.1,_,q5,lv,l,sk,mv,sks,ord,trk,st,rfl,hS,_,rfl,?_⟩
  by_cases hd:st.gone=ord.length
  ·refine iteDT hd ?_
   obtain ⟨rs,em,pm⟩:=hS.mov
   refine ⟨_,rfl,q5,_,dq5,_,_,rfl,hq5,T.k_Shunting,T.a_Shunting_moves,shf_moves _ _ _ _ _,fun x dx hx hdx hne=>⟨x,dx,mv,rs.map V.ref,rfl,upd_same,?_,fun u hu hux=>⟨rfl,?_⟩⟩⟩
   ·rw [upd_ne (ne_of_none em hx),upd_ne (ne_of_none em hdx)]
    exact em
   have hu1:upd H5 dx (.own x) u=none:=by rw [upd_ne hux] at hu;exact hu
   have hux2:u≠dx:=fun z=>by rw [z,upd_same] at hu1;cases hu1
   have hu3:H5 u=none:=by rw [upd_ne hux2] at hu1;exact hu1
   have s6:Same H5 (upd (upd (upd (upd H5 dx (.own x)) x (.ins Z.cShunted dx [])) u (.lst (rs.map V.ref))) x (.ins Z.cShunted dx [("moves",.ref u)])):=fun c o z=>by
    rw [upd_ne (ne_of_none z hx),upd_ne (ne_of_none z hu3),upd_ne (ne_of_none z hx),upd_ne (ne_of_none z hdx)]
    exact z
   refine k x (.sh u (st.mv.map gOf)) _ (sH.trans s6) (sH.free hx) ⟨⟨dx,_,upd_same,rfl,rfl,?_⟩,?_,⟨st.mv,rfl,?_⟩⟩ ?_ (sH.free hu3)
   ·refine MovesAt.g ⟨rs,by rw [upd_ne hux,upd_same],Paired.imp (fun r m z=>?_) pm⟩
    exact s6 _ _ z
   ·rw [List.length_map];omega
   ·exact run_mv_lt hW.tm hW.o hRun (Nat.le_refl _)
   ·exact run_brings hnd hR rfl hW.tm hRun hd
  ·refine iteDF hd ?_
   have hlt:st.gone < tr.length:=by omega
   obtain ⟨fp,cp,kk,ef,hf,ek,ec,hk',hfc,hc,htc,hidx,qq,wd,hqq,ewd,hcw⟩:=Sh.run_end hW.o hW.tm hRun hlt
   have hF5:=hF.sameH (s4.trans hS.same)
   obtain ⟨dqf,hqf⟩:=hF5.ins
   have hod:Gp.Od tr fp cp:=by
    refine ⟨hfc,hR.lt hnd _ _ fp cp hidx (hW.o.at_ hf) (hW.o.at_ hc),wd,hcw,hW.o.lt ewd,?_⟩
    exact hR.lt hnd qq st.gone wd fp hqq ewd ef
   have hrt:=hFo.conn (nbs_of hGr) hf (hcom fp cp hod)
   obtain ⟨jj,_⟩:=Sh.J.run hW.o hW.tm hRun (Nat.le_refl _)
   refine ⟨_,rfl,q,dqf,_,rfl,hqf,(fof_no _ _ _).2.2,?_⟩
   refine ⟨_,rfl,q5,dq5,_,rfl,hq5,(shf_no _ _ _ _ _).2.2.2.1,_,q5,lv,l,sk,mv,sks,ord,trk,st,fp,rfl,hS,ef,?_⟩
   refine ⟨_,rfl,q5,dq5,_,rfl,hq5,(shf_no _ _ _ _ _).2.2.2.2,_,q5,lv,l,sk,mv,sks,ord,trk,st,fp,cp,kk,rfl,hS,ef,by rw [hW.tl];exact hf,by rw [hsl];exact hW.tm fp hf,ek,ec,hk',?_,?_,?_⟩
   ·intro x hx
    have:=((jj.here _ x).mp hx).1
    omega
   ·have hnd2:(st.st.getD (trk.getD fp 0) []).Nodup:=by
     rw [List.nodup_iff_pairwise_ne]
     exact (pairwise_up (fun k a b h1 h2=>jj.up _ k a b h1 h2)).imp fun h=>Nat.ne_of_lt h
    have:=List.Nodup.length_le_of_subset hnd2 (l₂:=List.range tr.length) fun p hp=>List.mem_range.mpr ((jj.here _ p).mp hp).1
    rw [List.length_range] at this
    omega
   refine ⟨H0,q,nA,dA,pA,nbs,nb,dep,par,tr.length,fp,cp,rt,rfl,hF5,nbs_of hGr,by omega,hFo,hf,hc,hrt,fun l6 H6 ring z s6 f6 h6 hRing hlen=>?_⟩
   have hlv6:=s6 _ _ (hS.same _ _ (s4 _ _ hlv3))
   refine ⟨_,rfl,lv,ord,tr.length,rfl,hlv6,hW.o,ol,by omega,fun l7 H7 s7 f7 h7=>?_⟩
   have h67:=s7 _ _ h6
   have hodd:ring.length % 2=1:=by
    have h1:=tg fp hf
    have h2:=tg cp hc
    rw [htc] at h2
    omega
   obtain ⟨shw,eshw,hok⟩:=odd_ok hB hGr hRing hod hodd
   have rl:ring.length <= tr.length:=by
    have:=List.Nodup.length_le_of_subset hRing.nd (l₂:=List.range tr.length) fun p hp=>List.mem_range.mpr (hRing.lt p hp)
    rw [List.length_range] at this
    exact this
   have ec1:cutV (ordV ring) (some 1) none=ordV (ring.drop 1):=by
    rw [show (1:Int)=((1:Nat):Int) from rfl,cutV_from]
    exact List.map_drop.symm
   have ec2:cutV (ordV ring) none (some 1)=ordV (ring.take 1):=by
    rw [show (1:Int)=((1:Nat):Int) from rfl,cutV_to]
    exact List.map_take.symm
   refine ⟨_,rfl,_,rfl,_,rfl,_,rfl,l6,_,rfl,SqL.of h67,fun u hu=>?_⟩
   rw [ec1]
   have s8:=Same.upd (o:=.lst (ordV (ring.drop 1))) hu
   refine ⟨_,rfl,_,rfl,l6,_,rfl,SqL.of (s8 _ _ h67),fun v hv=>?_⟩
   rw [ec2]
   have s9:=Same.upd (o:=.lst (ordV (ring.take 1))) hv
   refine .inr (.inl ⟨u,v,_,_,rfl,rfl,s9 _ _ upd_same,upd_same,?_,fun x hx=>?_⟩)
   ·rw [List.length_map,List.length_map,List.length_drop,List.length_take]
    exact Nat.le_of_lt (small1000' (by omega))
   have erot:ordV (ring.drop 1)++ordV (ring.take 1)=ordV (rot ring):=by
    unfold rot
    exact List.map_append.symm
   rw [erot]
   have s10:=Same.upd (o:=.lst (ordV (rot ring))) hx
   have s710:=(s8.trans s9).trans s10
   generalize hH8:upd (upd (upd H7 u (.lst (ordV (ring.drop 1)))) v (.lst (ordV (ring.take 1)))) x (.lst (ordV (rot ring)))=H8 at s710 ⊢
   have hx8:H8 x=some (.lst (ordV (rot ring))):=by rw [<- hH8];exact upd_same
   have h68:=s710 _ _ h67
   have h78:=s710 _ _ h7
   refine ⟨l6,x,rfl,⟨_,SqL.of h68⟩,⟨_,SqL.of hx8⟩,fun p hp=>?_⟩
   refine turns_zip (K:=K) (xs:=ordV ring) (ys:=ordV (rot ring))
    (fun i σ H9=>(∃ a b,σ=[a,b,some (.ref l7)]) /\ Same H8 H9 /\ H9 p=some (.lst (((shI ord ring).take i).map V.int)))
    ⟨⟨_,_,rfl⟩,Same.upd hp,upd_same⟩ (fun i σ H9 h=>⟨SqL.of (h.2.1 _ _ h68),SqL.of (h.2.1 _ _ hx8)⟩) ?_ ?_
   ·rintro i x1 y1 t σ H9 hx1 hy1 ⟨⟨a1,b1,rfl⟩,s11,h11⟩ ht
    obtain ⟨a2,ea2,rfl⟩:=getMap hx1
    obtain ⟨b2,eb2,rfl⟩:=getMap hy1
    have ha2:=hRing.lt a2 (List.mem_of_getElem? ea2)
    have st:=Same.upd (o:=.tup [.int (a2:Int),.int (b2:Int)]) ht
    have emin:(if (b2:Int) < (a2:Int) then (b2:Int) else (a2:Int))=((min a2 b2:Nat):Int):=by split<;>omega
    have hlast:(lastsV ord tr.length)[min a2 b2]?=some (mx (ord.take (ord.idxOf (min a2 b2)))):=by
     unfold lastsV
     rw [List.getElem?_map,List.getElem?_range (by omega)]
     rfl
    refine ⟨t,_,rfl,SqT.of upd_same,rfl,_,_,rfl,_,_,rfl,rfl,?_⟩
    refine ⟨_,rfl,_,rfl,_,rfl,_,_,rfl,.inl ⟨l7,_,((min a2 b2:Nat):Int),.int (mx (ord.take (ord.idxOf (min a2 b2)))),rfl,congrArg V.int emin,SqL.of (st _ _ (s11 _ _ h78)),atI_nat (by rw [List.getElem?_map,hlast];rfl),?_⟩⟩
    have esh:(shI ord ring)[i]?=some (mx (ord.take (ord.idxOf (min a2 b2)))):=by
     unfold shI
     rw [List.getElem?_map,List.getElem?_zip_eq_some (z:=(a2,b2)) |>.mpr ⟨ea2,eb2⟩]
     rfl
    refine ⟨_,st _ _ h11,?_,⟨_,_,rfl⟩,Same.updN (s11.trans st) hp,?_⟩
    ·rw [List.length_map,List.length_take]
     have:(shI ord ring).length <= ring.length:=by unfold shI;rw [List.length_map,List.length_zip];omega
     exact small1000' (by omega)
    ·rw [upd_same,take_snoc esh,List.map_append]
     rfl
   rintro σ H9 ⟨_,s11,h11⟩
   rw [List.length_map,List.length_map,rot_len,Nat.min_self,List.take_of_length_le (by unfold shI;rw [List.length_map,List.length_zip];omega),eshw,List.map_map] at h11
   have h69:=s11 _ _ h68
   have hp9:H9 p=some (.lst (ordV shw)):=h11
   refine fun y dy hy hdy hne=>⟨y,dy,l6,p,ordV ring,ordV shw,rfl,upd_same,?_,?_,fun u2 v2 H10 k1 k2 k3 k4 k5 k6 k7=>⟨rfl,?_⟩⟩
   ·rw [upd_ne (ne_of_none h69 hy),upd_ne (ne_of_none h69 hdy)]
    exact h69
   ·rw [upd_ne (ne_of_none hp9 hy),upd_ne (ne_of_none hp9 hdy)]
    exact hp9
   have sF:Same H H9:=((sH.trans s6).trans s7).trans (s710.trans s11)
   have fre:∀ c,upd (upd H9 dy (.own y)) y (.ins Z.cOdd dy []) c=none->H c=none:=fun c e=>by
    have h1:c≠y:=fun z=>by rw [z,upd_same] at e;cases e
    rw [upd_ne h1] at e
    have h2:c≠dy:=fun z=>by rw [z,upd_same] at e;cases e
    rw [upd_ne h2] at e
    exact sF.free e
   refine k y (.od u2 v2 ring shw) H10 (sF.trans fun c o e=>k2 c o ?_ (ne_of_none e hy)) (sF.free hy) ⟨dy,k1,k3,k4,k7⟩ hok ⟨fre _ k5,fre _ k6⟩
   rw [upd_ne (ne_of_none e hy),upd_ne (ne_of_none e hdy)]
   exact e
def sp_spoiled(K:PySem.W.Frag):Sp:=fun vs H Q _=>∃ (tA a:Addr) (T ns:List Int),vs=[.ref tA,.ref a] /\ H tA=some (.lst (T.map V.int)) /\ SqL K H a (ns.map V.int) /\ T.length < 1000 /\
 ∀ (p:Addr) (T':List Int) (H':Hp),Same H H'->H p=none->H' p=some (.lst (T'.map V.int))->T'.Perm T->Q (.ref p) H'
theorem sc__law_spoiled:FnScope ["_law_train", "_law_script", "_law_one", "_law_other", "_law_found"] ["_law_train", "_law_script"] (defScope s__law_spoiled):=⟨rfl,rfl,rfl,by decide +kernel,rfl,by decide +kernel,by decide +kernel⟩
theorem C__law_spoiled(T:Tx K mg Z):Ctr P w K mg base CX0 1 "_law_spoiled" ["_law_train", "_law_script"] (sp_spoiled K):=by
 refine ctr_of T._law_spoiled fun f fd F=>F.ok sc__law_spoiled (fun vs H Q E h=>?_) (fun cdv A outer s H vs Q E hr h=>?_)
 ·obtain ⟨tA,a,T,ns,rfl,_⟩:=h
  rfl
 ·obtain ⟨tA,a,tr,ns,rfl,hT,hS,hz,kQ⟩:=h
  refine' ⟨_,?hterm,?_⟩
  case hterm=>
   refine' pss_cons ?q1 ?q2
   case q1=>
    refine' ps_par (i:=2) (j:=3) rfl sc__law_spoiled.nd rfl rfl (by decide) rfl rfl ?q3 (by kernel_rfl) (hs:=by kernel_rfl)
    case' q3=>refine' pa_cons ?q4 ?q5
    case q4=>
     refine' pe_op op_mod ?q6 ?q7
     case q6=>
      refine' pe_callB (callK_sum (K:=K) (by rfl) (by rfl)) (by rfl) T.n_sum b_sum ?q8
      case q8=>exact pa_cons (pv 1) pa_nil
     case' q7=>refine' pe_callB (call_max2 rfl) (by rfl) T.n_max b_max ?q9
     case' q9=>refine' pa_cons pe_int ?q10
     case' q10=>refine' pa_cons ?q11 pa_nil
     case' q11=>refine' pe_callB (callK_len (K:=K) (by rfl)) (by rfl) T.n_len b_len ?q12
     case q12=>exact pa_cons (pv 0) pa_nil
    case' q5=>refine' pa_cons ?q13 pa_nil
    case' q13=>refine' pe_op op_mod ?q14 ?q15
    case q14=>
     refine' pe_op op_fdiv ?q16 pe_int
     case' q16=>refine' pe_callB (callK_sum (K:=K) (by rfl) (by rfl)) (by rfl) T.n_sum b_sum ?q17
     case q17=>exact pa_cons (pv 1) pa_nil
    case' q15=>refine' pe_callB (call_max2 rfl) (by rfl) T.n_max b_max ?q18
    case' q18=>refine' pa_cons pe_int ?q19
    case' q19=>refine' pa_cons ?q20 pa_nil
    case' q20=>refine' pe_callB (callK_len (K:=K) (by rfl)) (by rfl) T.n_len b_len ?q21
    case q21=>exact pa_cons (pv 0) pa_nil
   case' q2=>refine' pss_cons ?q22 ?q23
   case q22=>
    refine' ps_set (i:=4) sc__law_spoiled.nd rfl (Or.inl rfl) ?q24
    case' q24=>refine' pe_callTy (callK_list (K:=K) (by rfl)) (by rfl) T.n_list b_list ?q25
    case q25=>exact pa_cons (pv 0) pa_nil
   case q23=>
    refine' pss_cons ?q26 ?q27
    case q26=>
     refine' ps_if ?q28 ?q29 pss_nil
     case q28=>
      refine' pt_cmpR (op_neK (K:=K) (by rfl) (by exact hr.units)) (pv 0) ?q30 (nomark _)
      case q30=>exact pe_lst pa_nil
     case' q29=>refine' pss_one ?q31
     case' q31=>refine' ps_asg ?q32 ?q33 (hs:=by kernel_rfl) (hw:=by kernel_rfl)
     case q32=>
      refine' pe_tup ?q34
      case' q34=>refine' pa_cons ?q35 ?q36
      case q35=>exact pe_ix (ix_K (K:=K) (by rfl)) (pv 0) (pv 3) (fun _ _=>rfl)
      case' q36=>refine' pa_cons ?q37 pa_nil
      case q37=>exact pe_ix (ix_K (K:=K) (by rfl)) (pv 0) (pv 2) (fun _ _=>rfl)
     case' q33=>refine' pg_tupK (K:=K) (n:=2) (by rfl) rfl ?q38
     case' q38=>refine' pgs_cons ?q39 ?q40
     case q39=>exact pg_sub (pv 4) (pv 2) set_list
     case' q40=>refine' pgs_cons ?q41 pgs_nil
     case q41=>exact pg_sub (pv 4) (pv 3) set_list
    case' q27=>refine' pss_one ?q42
    case q42=>exact ps_ret (pv 4)
  have mx:∃ m:Nat,(if ((tr.map V.int).length:Int) > 1 then ((tr.map V.int).length:Int) else 1)=(m:Int) /\ 1 <= m /\ m < 1000 /\ (tr≠[]->m=tr.length):=by
   rw [List.length_map]
   by_cases h1:(tr.length:Int) > 1
   ·rw [if_pos h1]
    exact ⟨tr.length,rfl,by omega,hz,fun _=>rfl⟩
   ·rw [if_neg h1]
    refine ⟨1,rfl,Nat.le_refl _,by decide,fun hne=>?_⟩
    have:=List.length_pos_iff.mpr hne
    omega
  obtain ⟨m,em,m1,m2,m3⟩:=mx
  refine ⟨_,rfl,a,ns,rfl,hS,_,rfl,_,_,rfl,.inl ⟨_,SqL.of hT,rfl⟩,1,_,rfl,?_⟩
  rw [em]
  refine ⟨_,_,rfl,rfl,(by show (0:Int) < m;omega),?_⟩
  refine ⟨_,rfl,a,ns,rfl,hS,_,7,rfl,rfl,⟨by decide,by decide⟩,_,rfl,_,_,rfl,.inl ⟨_,SqL.of hT,rfl⟩,1,_,rfl,?_⟩
  rw [em]
  refine ⟨_,_,rfl,rfl,(by show (0:Int) < m;omega),_,_,rfl,?_⟩
  have nz:(m:Int)≠0:=by omega
  have b0:=Int.emod_nonneg ns.sum nz
  have b1:=Int.emod_lt_of_pos ns.sum (show (0:Int) < m by omega)
  have c0:=Int.emod_nonneg (ns.sum / 7) nz
  have c1:=Int.emod_lt_of_pos (ns.sum / 7) (show (0:Int) < m by omega)
  obtain ⟨i,ei⟩:∃ i:Nat,ns.sum % (m:Int)=(i:Int):=⟨(ns.sum % (m:Int)).toNat,by omega⟩
  obtain ⟨j,ej⟩:∃ j:Nat,ns.sum / 7 % (m:Int)=(j:Int):=⟨(ns.sum / 7 % (m:Int)).toNat,by omega⟩
  dsimp only
  rw [ei,ej]
  rw [ei] at b1
  rw [ej] at c1
  refine ⟨_,rfl,tA,_,rfl,.inl (SqL.of hT),fun p hp=>?_⟩
  have s1:=Same.upd (o:=.lst (tr.map V.int)) hp
  refine ⟨_,rfl,Nat.zero_le _,fun e he=>.inr ⟨dI tr,dI [],.ints (SqL.of (upd_get (s1 _ _ hT) he)),.ints (SqL.of upd_same),ok_ints _ _,ok_ints _ _,_,rfl,?_⟩⟩
  have s2:=s1.trans (Same.upd (o:=.lst []) he)
  have hp2:upd (upd H p (.lst (tr.map V.int))) e (.lst []) p=some (.lst (tr.map V.int)):=upd_get upd_same he
  refine iteNB (fun hne=>?_) (fun _=>?_)
  ·have hne':tr≠[]:=fun z=>hne (by rw [z])
   have hm:=m3 hne'
   obtain ⟨x,ex⟩:∃ x,tr[i]?=some x:=⟨_,List.getElem?_eq_getElem (by omega)⟩
   obtain ⟨y,ey⟩:∃ y,tr[j]?=some y:=⟨_,List.getElem?_eq_getElem (by omega)⟩
   refine ⟨_,rfl,_,rfl,.inl ⟨tA,_,_,.int y,rfl,rfl,SqL.of (s2 _ _ hT),atI_nat (by rw [List.getElem?_map,ey];rfl),?_⟩⟩
   refine ⟨_,rfl,_,rfl,.inl ⟨tA,_,_,.int x,rfl,rfl,SqL.of (s2 _ _ hT),atI_nat (by rw [List.getElem?_map,ex];rfl),?_⟩⟩
   refine ⟨(by show 2 <= sizeLine;decide),fun u hu=>⟨u,_,rfl,SqT.of upd_same,rfl,_,_,rfl,?_⟩⟩
   have s3:=s2.trans (Same.upd (o:=.tup [.int y,.int x]) hu)
   refine ⟨_,rfl,_,rfl,p,_,_,i,rfl,rfl,upd_get hp2 hu,ixN_nat (by rw [List.length_map];omega),_,_,rfl,?_⟩
   refine ⟨_,rfl,_,rfl,p,_,_,j,rfl,rfl,upd_same,ixN_nat (by rw [List.length_set,List.length_map];omega),rfl,?_⟩
   refine ⟨_,rfl,kQ p ((tr.set i y).set j x) _ (Same.updN (Same.updN s3 hp) hp) hp (by rw [upd_same,List.map_set,List.map_set]) (perm_swap ex ey)⟩
  ·exact ⟨_,rfl,kQ p tr _ s2 hp hp2 (List.Perm.refl _)⟩
def sp_made(K:PySem.W.Frag):Sp:=fun vs H Q _=>∃ (a:Addr) (ns:List Int) (b:Bool) (n:Nat),vs=[.ref a,.bl b,.int n] /\ SqL K H a (ns.map V.int) /\ ns.length < 64 /\ 1 <= n /\ n <= 100 /\
 ∀ (p:Addr) (T:List Int) (ms:List Yd.Mv) (H':Hp),Same H H'->H p=none->H' p=some (.lst (T.map V.int))->T.Perm (Yd.R ns.length)->Yd.Brings T b n ms->Q (.ref p) H'
structure MdAt(H H2:Hp)(kA lA:Addr)(ls:List Addr)(len n:Nat)(b:Bool)(i:Nat)(st:Yd.St)(ms:List Yd.Mv):Prop where
 same:Same H H2
 go:Yd.steps (Yd.R len) b (Yd.init n) ms=some st
 val:∀ m∈ms,m.2 < n
 came:st.came=i
 yds:Yds H H2 kA ls st.tr
 left:H2 lA=some (.lst (st.left.map V.int))
theorem MdAt.len{H H2:Hp}{kA lA:Addr}{ls:List Addr}{len n:Nat}{b:Bool}{i:Nat}{st:Yd.St}{ms:List Yd.Mv}(m:MdAt H H2 kA lA ls len n b i st ms):st.tr.length=n /\ ls.length=n:=by
 have h:=Yd.steps_len m.go
 have e:(Yd.init n).tr.length=n:=by show (List.replicate n ([]:List Int)).length=n;rw [List.length_replicate]
 rw [e] at h
 exact ⟨h,by rw [m.yds.len,h]⟩
theorem MdAt.count{H H2:Hp}{kA lA:Addr}{ls:List Addr}{len n:Nat}{b:Bool}{i:Nat}{st:Yd.St}{ms:List Yd.Mv}(m:MdAt H H2 kA lA ls len n b i st ms):st.left.length+(st.tr.map List.length).sum=i:=by
 rw [<- m.came]
 exact Yd.steps_count m.go (fun x hx=>by show x.2 < (List.replicate n ([]:List Int)).length;rw [List.length_replicate];exact m.val x hx) (Yd.init_count n)
def MdB(H5:Hp)(a kA:Addr)(b:Bool)(n len:Nat)(tr:List (List Int))(v5 v6:Option V)(j:Nat)(σ:St)(H6:Hp):Prop:=
 ∃ (qA:Addr) (st':Yd.St) (ms':List Yd.Mv) (v7:Option V),σ=[some (.ref a),some (.bl b),some (.int n),some (.ref kA),some (.ref qA),v5,v6,v7,none,none] /\ Same H5 H6 /\
  Yd.steps (Yd.R len) b (Yd.init n) ms'=some st' /\ (∀ m∈ms',m.2 < n) /\ st'.came=len /\ st'.tr=List.replicate j []++tr.drop j /\ H6 qA=some (.lst (st'.left.map V.int))
theorem sc__law_made:FnScope ["_law_script", "_law_blind", "_law_many", "_law_tracks", "_law_left", "_law_n", "_law_turn", "_law_track", "_law_train", "_law_at"] ["_law_script", "_law_blind", "_law_many"] (defScope s__law_made):=⟨rfl,rfl,rfl,by decide +kernel,rfl,by decide +kernel,by decide +kernel⟩
theorem C__law_made(T:Tx K mg Z):Ctr P w K mg base CX0 1 "_law_made" ["_law_script", "_law_blind", "_law_many"] (sp_made K):=by
 refine ctr_of T._law_made fun f fd F=>F.ok sc__law_made (fun vs H Q E h=>?_) (fun cdv A outer s H vs Q E hr h=>?_)
 ·obtain ⟨a,ns,b,n,rfl,_⟩:=h
  rfl
 ·obtain ⟨a,ns,b,n,rfl,hS,hz,hn1,hn2,kQ⟩:=h
  refine' ⟨_,?hterm,?_⟩
  case hterm=>
   refine' pss_cons ?q1 ?q2
   case q1=>
    refine' ps_par (i:=3) (j:=4) rfl sc__law_made.nd rfl rfl (by decide) rfl rfl ?q3 (by kernel_rfl) (hs:=by kernel_rfl)
    case' q3=>refine' pa_cons ?q4 ?q5
    case q4=>
     refine' pe_comp rfl (csc_of (sc:=defScope s__law_made) (N:=["_law_script", "_law_blind", "_law_many", "_law_tracks", "_law_left", "_law_n", "_law_turn", "_law_track", "_law_train", "_law_at"]) (cap:=[none]) (N':=["_law_track"]) rfl rfl ⟨ rfl,by decide +kernel,by decide +kernel,by decide +kernel,rfl,by decide +kernel ⟩) ?q6 (fun _ _ _ _=>?q7) (fun _ _ _ _=>pif_nil) (fun _ _ _ _=>?q8)
     case q6=>
      refine' pi_range1 rfl T.n_range ?q9
      case q9=>exact pa_cons (pv 2) pa_nil
     case q7=>exact pg_name (i:=0) (show List.Nodup (["_law_track"]:List Str) from by decide +kernel) (by rfl) (by exact Or.inl rfl)
     case q8=>exact pe_lst pa_nil
    case' q5=>refine' pa_cons ?q10 pa_nil
    case q10=>exact pe_lst pa_nil
   case' q2=>refine' pss_cons ?q11 ?q12
   case q11=>
    refine' ps_for HP rfl ?q13 ?q14 ?q15
    case q13=>
     refine' pi_range1 rfl T.n_range ?q16
     case' q16=>refine' pa_cons ?q17 pa_nil
     case' q17=>refine' pe_callB (callK_len (K:=K) (by rfl)) (by rfl) T.n_len b_len ?q18
     case q18=>exact pa_cons (pv 0) pa_nil
    case q14=>exact pg_name (i:=5) sc__law_made.nd (by rfl) (by exact Or.inl rfl)
    case' q15=>refine' pss_cons ?q19 ?q20
    case q19=>
     refine' ps_expr ?q21
     case' q21=>refine' pe_bmK (K:=K) (by rfl) PySem.F.plainAttrs_list PySem.F.slot_list_append PySem.F.type_list_append mt_append ?q22 ?q23
     case q22=>
      refine' pe_ix (ix_K (K:=K) (by rfl)) (pv 3) ?q24 (fun _ _=>rfl)
      case' q24=>refine' pe_op op_mod ?q25 (pv 2)
      case q25=>exact pe_ix (ix_K (K:=K) (by rfl)) (pv 0) (pv 5) (fun _ _=>rfl)
     case q23=>exact pa_cons (pv 5) pa_nil
    case' q20=>refine' pss_one ?q26
    case' q26=>refine' ps_for HP rfl ?q27 ?q28 ?q29
    case q27=>
     refine' pi_range1 rfl T.n_range ?q30
     case' q30=>refine' pa_cons ?q31 pa_nil
     case' q31=>refine' pe_op op_mod ?q32 pe_int
     case' q32=>refine' pe_op op_fdiv ?q33 (pv 2)
     case q33=>exact pe_ix (ix_K (K:=K) (by rfl)) (pv 0) (pv 5) (fun _ _=>rfl)
    case q28=>exact pg_name (i:=6) sc__law_made.nd (by rfl) (by exact Or.inl rfl)
    case' q29=>refine' pss_cons ?q34 ?q35
    case q34=>
     refine' ps_set (i:=7) sc__law_made.nd rfl (Or.inl rfl) ?q36
     case' q36=>refine' pe_op op_mod ?q37 (pv 2)
     case' q37=>refine' pe_op (op_addK (K:=K) (by rfl)) ?q38 (pv 6)
     case' q38=>refine' pe_op op_fdiv ?q39 pe_int
     case' q39=>refine' pe_op op_fdiv ?q40 (pv 2)
     case q40=>exact pe_ix (ix_K (K:=K) (by rfl)) (pv 0) (pv 5) (fun _ _=>rfl)
    case' q35=>refine' pss_one ?q41
    case' q41=>refine' ps_if ?q42 ?q43 pss_nil
    case q42=>
     refine' pt_cmpR (op_neK (K:=K) (by rfl) (by exact hr.units)) ?q44 ?q45 (nomark _)
     case q44=>exact pe_ix (ix_K (K:=K) (by rfl)) (pv 3) (pv 7) (fun _ _=>rfl)
     case q45=>exact pe_lst pa_nil
    case' q43=>refine' pss_one ?q46
    case' q46=>refine' ps_expr ?q47
    case' q47=>refine' pe_bmK (K:=K) (by rfl) PySem.F.plainAttrs_list PySem.F.slot_list_append PySem.F.type_list_append mt_append (pv 4) ?q48
    case' q48=>refine' pa_cons ?q49 pa_nil
    case' q49=>refine' pe_ifExp ?q50 ?q51 ?q52
    case q50=>exact pt_truK (K:=K) (by rfl) (pv 1) (fun _=>rfl)
    case q51=>
     refine' pe_bmK0 (K:=K) (by rfl) PySem.F.plainAttrs_list PySem.F.slot_list_pop PySem.F.type_list_pop mt_popU ?q53
     case q53=>exact pe_ix (ix_K (K:=K) (by rfl)) (pv 3) (pv 7) (fun _ _=>rfl)
    case' q52=>refine' pe_bmK (K:=K) (by rfl) PySem.F.plainAttrs_list PySem.F.slot_list_pop PySem.F.type_list_pop mt_popU ?q54 ?q55
    case q54=>exact pe_ix (ix_K (K:=K) (by rfl)) (pv 3) (pv 7) (fun _ _=>rfl)
    case q55=>exact pa_cons pe_int pa_nil
   case' q12=>refine' pss_cons ?q56 ?q57
   case q56=>
    refine' ps_for HP rfl ?q58 ?q59 ?q60
    case q58=>exact pi_listK (K:=K) (by rfl) (pv 3)
    case q59=>exact pg_name (i:=7) sc__law_made.nd (by rfl) (by exact Or.inl rfl)
    case' q60=>refine' pss_one ?q61
    case' q61=>refine' ps_set (i:=4) sc__law_made.nd rfl (Or.inl rfl) ?q62
    case' q62=>refine' pe_op (op_addK (K:=K) (by rfl)) (pv 4) ?q63
    case' q63=>refine' pe_ifExp ?q64 ?q65 (pv 7)
    case q64=>exact pt_truK (K:=K) (by rfl) (pv 1) (fun _=>rfl)
    case' q65=>refine' pe_rev (K:=K) (by rfl) (pv 7) po_none ?q66
    case' q66=>refine' po_some ?q67
    case q67=>exact pe_un un_neg pe_int
   case' q57=>refine' pss_cons ?q68 ?q69
   case q68=>
    refine' ps_setComp (i:=8) sc__law_made.nd rfl rfl rfl (csc_of (sc:=defScope s__law_made) (N:=["_law_script", "_law_blind", "_law_many", "_law_tracks", "_law_left", "_law_n", "_law_turn", "_law_track", "_law_train", "_law_at"]) (cap:=[none]) (N':=["_law_wagon"]) rfl rfl ⟨ rfl,by decide +kernel,by decide +kernel,by decide +kernel,rfl,by decide +kernel ⟩) ?q70 (fun _ _ _ _=>?q71) (fun _ _ _ _=>pif_nil) (fun _ _ _ _=>pe_int)
    case q70=>exact pi_listK (K:=K) (by rfl) (pv 4)
    case q71=>exact pg_name (i:=0) (show List.Nodup (["_law_wagon"]:List Str) from by decide +kernel) (by rfl) (by exact Or.inl rfl)
   case' q69=>refine' pss_cons ?q72 ?q73
   case q72=>
    refine' ps_for HP rfl ?q74 ?q75 ?q76
    case q74=>
     refine' pi_range1 rfl T.n_range ?q77
     case' q77=>refine' pa_cons ?q78 pa_nil
     case' q78=>refine' pe_callB (callK_len (K:=K) (by rfl)) (by rfl) T.n_len b_len ?q79
     case q79=>exact pa_cons (pv 4) pa_nil
    case q75=>exact pg_name (i:=9) sc__law_made.nd (by rfl) (by exact Or.inl rfl)
    case' q76=>refine' pss_one ?q80
    case' q80=>refine' ps_asg (pv 9) ?q81
    case' q81=>refine' pg_sub (pv 8) ?q82 set_list
    case q82=>exact pe_ix (ix_K (K:=K) (by rfl)) (pv 4) (pv 9) (fun _ _=>rfl)
   case' q73=>refine' pss_one ?q83
   case q83=>exact ps_ret (pv 8)
  refine ⟨_,rfl,(n:Int),rfl,by omega,by omega,fun kA hkA=>?_⟩
  rw [Int.toNat_natCast]
  refine turns_range (lo:=0) (n:=n) (fun i σ H3=>(∃ v,σ=[v]) /\ Same H H3 /\ ∃ ls:List Addr,Yds H H3 kA ls (List.replicate i []))
   ⟨⟨_,rfl⟩,Same.upd hkA,[],upd_same,rfl,fun j l e=>by simp at e,fun i j l e=>by simp at e⟩ ?_ ?_
  ·rintro i σ H3 hi ⟨⟨v,rfl⟩,s3,ls,hy⟩
   refine ⟨Nat.zero_le _,fun l hl=>⟨_,(hy.same (Same.upd hl)).lst,?_,⟨_,rfl⟩,?_,ls++[l],?_⟩⟩
   ·rw [List.length_map,hy.len,List.length_replicate]
    exact small1000 (by omega)
   ·exact Same.updN (s3.trans (Same.upd hl)) hkA
   ·have:=hy.push s3 hl
    rw [List.replicate_succ']
    exact this
  rintro σ H3 ⟨_,s3,ls,hy⟩
  refine ⟨Nat.zero_le _,fun lA hlA=>⟨_,_,rfl,?_⟩⟩
  have s4:Same H3 (upd H3 lA (.lst [])):=Same.upd hlA
  have hlH:H lA=none:=s3.free hlA
  have ekl:kA≠lA:=ne_of_none hy.lst hlA
  have ell:∀ (j:Nat) l,ls[j]?=some l->l≠lA:=fun j l e=>by
   obtain ⟨c,_,a,_⟩:=hy.each j l e
   exact ne_of_none a hlA
  have hS3:=(s3.trans s4).seq hS
  refine ⟨_,rfl,_,_,rfl,.inl ⟨_,hS3,rfl⟩,_,rfl,?_,?_,?_⟩
  ·rw [List.length_map];omega
  ·rw [List.length_map];omega
  rw [Int.toNat_natCast,List.length_map]
  have leave:∀ {H5 H6:Hp} {i:Nat} {st:Yd.St} {ms:List Yd.Mv} {t:Nat} {l:Addr} {x:Int} {c c':List Int},MdAt H H5 kA lA ls ns.length n b i st ms->Same H5 H6->ls[t]?=some l->st.tr[t]?=some c->(if b=true then c=c'++[x] else c=x :: c')->
    MdAt H (upd (upd H6 l (.lst (c'.map V.int))) lA (.lst (st.left.map V.int++[.int x]))) kA lA ls ns.length n b i ⟨st.tr.set t c',st.left++[x],st.came⟩ (ms++[(false,t)]):=fun {H5 H6 i st ms t l x c c'} M s6 el ec hc=>by
   have hl0:H l=none:=by
    obtain ⟨_,_,_,z,_⟩:=M.yds.each _ _ el
    exact z
   have hD:st.tr.getD t []=c:=by rw [List.getD_eq_getElem?_getD,ec];rfl
   have hs:Yd.step (Yd.R ns.length) b st (false,t)=some ⟨st.tr.set t c',st.left++[x],st.came⟩:=by
    unfold Yd.step
    rw [if_neg Bool.false_ne_true]
    cases b with
    | true=>
     have hc':c=c'++[x]:=by simpa using hc
     rw [if_pos rfl]
     simp only [hD,hc']
     rw [List.getLast?_append]
     simp
    | false=>
     have hc':c=x :: c':=by simpa using hc
     rw [if_neg Bool.false_ne_true]
     simp only [hD,hc']
   have tl:=(List.getElem?_eq_some_iff.mp el).1
   refine ⟨Same.updN (Same.updN (M.same.trans s6) hl0) hlH,Yd.steps_trans M.go (by show (Yd.step _ _ _ _).bind _=_;rw [hs];rfl),fun m hm=>?_,M.came,((M.yds.same s6).set el c').other ekl ell,?_⟩
   ·rcases List.mem_append.mp hm with z | z
    ·exact M.val m z
    ·rw [show m=(false,t) by simpa using z]
     show t < n
     have:=M.len.2
     omega
   ·rw [upd_same,List.map_append]
    rfl
  refine for_range (lo:=0) (n:=ns.length) (fun i σ H5=>∃ (st:Yd.St) (ms:List Yd.Mv) (v5 v6 v7:Option V),σ=[some (.ref a),some (.bl b),some (.int n),some (.ref kA),some (.ref lA),v5,v6,v7,none,none] /\ MdAt H H5 kA lA ls ns.length n b i st ms)
   ⟨Yd.init n,[],none,none,none,rfl,⟨s3.trans s4,rfl,fun m hm=>by (cases hm),rfl,hy.same s4,upd_same⟩⟩ ?_ ?_
  ·rintro i σ H5 hi ⟨st,ms,v5,v6,v7,rfl,M⟩
   rw [show (0:Int)+(i:Int)=(i:Int) from Int.zero_add _]
   obtain ⟨c,ec⟩:∃ c,ns[i]?=some c:=⟨_,List.getElem?_eq_getElem hi⟩
   have ecV:(ns.map V.int)[i]?=some (.int c):=by rw [List.getElem?_map,ec];rfl
   have nz:(n:Int)≠0:=by omega
   have t0:=Int.emod_nonneg c nz
   have t1:=Int.emod_lt_of_pos c (show (0:Int) < n by omega)
   obtain ⟨t,et⟩:∃ t:Nat,c % (n:Int)=(t:Int):=⟨(c % (n:Int)).toNat,by omega⟩
   obtain ⟨hl1,hl2⟩:=M.len
   obtain ⟨l,el⟩:∃ l,ls[t]?=some l:=⟨_,List.getElem?_eq_getElem (by omega)⟩
   obtain ⟨d,ed,hl,hl0,hlk⟩:=M.yds.each _ _ el
   have hcnt:=M.count
   have hdl:d.length <= i:=by
    have:=Yd.le_sum (List.mem_map.mpr ⟨d,List.mem_of_getElem? ed,rfl⟩:d.length∈st.tr.map List.length)
    omega
   refine ⟨_,rfl,_,rfl,_,rfl,.inl ⟨a,_,_,.int c,rfl,rfl,M.same.seq hS,atI_nat ecV,_,rfl,_,_,rfl,rfl,(by show (0:Int) < n;omega),?_⟩⟩
   refine .inl ⟨kA,_,_,.ref l,rfl,rfl,SqL.of M.yds.lst,(by rw [et];exact atI_nat (by rw [List.getElem?_map,el];rfl)),.inl ⟨rfl,_,SqL.of hl⟩,_,rfl,l,_,_,rfl,rfl,hl,(by rw [List.length_map];exact small1000 (by omega)),?_⟩
   have hs:Yd.step (Yd.R ns.length) b st (true,t)=some ⟨st.tr.set t (d++[(i:Int)]),st.left,st.came+1⟩:=by
    unfold Yd.step
    rw [if_pos rfl,M.came,Yd.R_get hi]
    show some (Yd.St.mk (st.tr.set t (st.tr.getD t []++[(i:Int)])) st.left (i+1))=_
    rw [List.getD_eq_getElem?_getD,ed]
    rfl
   have M1:MdAt H (upd H5 l (.lst (d.map V.int++[.int i]))) kA lA ls ns.length n b (i+1) ⟨st.tr.set t (d++[(i:Int)]),st.left,st.came+1⟩ (ms++[(true,t)]):=by
    have y6:=M.yds.set el (d++[(i:Int)])
    rw [List.map_append] at y6
    refine ⟨Same.updN M.same hl0,Yd.steps_trans M.go (by show (Yd.step _ _ _ _).bind _=_;rw [hs];rfl),fun m hm=>?_,by show st.came+1=i+1;rw [M.came],y6,by rw [upd_ne (ell _ _ el).symm];exact M.left⟩
    rcases List.mem_append.mp hm with z | z
    ·exact M.val m z
    ·rw [show m=(true,t) by simpa using z]
     show t < n
     omega
   generalize upd H5 l (.lst (d.map V.int++[.int i]))=H6 at M1 ⊢
   refine ⟨_,rfl,_,rfl,.inl ⟨a,_,_,.int c,rfl,rfl,M1.same.seq hS,atI_nat ecV,_,rfl,_,_,rfl,rfl,⟨by omega,by omega⟩,_,3,rfl,rfl,(by show (0:Int) < 3;decide),?_⟩⟩
   have r0:=Int.emod_nonneg (c / (n:Int)) (show (3:Int)≠0 by decide)
   have r1:=Int.emod_lt_of_pos (c / (n:Int)) (show (0:Int) < 3 by decide)
   refine ⟨_,rfl,by omega,by omega,?_⟩
   refine for_range (lo:=0) (fun i' σ H5=>∃ (st:Yd.St) (ms:List Yd.Mv) (v6 v7:Option V),σ=[some (.ref a),some (.bl b),some (.int n),some (.ref kA),some (.ref lA),some (.int i),v6,v7,none,none] /\ MdAt H H5 kA lA ls ns.length n b (i+1) st ms)
    ⟨_,_,_,_,rfl,M1⟩ ?_ ?_
   ·rintro i' σ H7 hi' ⟨st',ms',v6,v7,rfl,M⟩
    refine ⟨_,rfl,_,rfl,.inl ⟨a,_,_,.int c,rfl,rfl,M.same.seq hS,atI_nat ecV,_,rfl,_,_,rfl,rfl,⟨by omega,by omega⟩,_,3,rfl,rfl,⟨by decide,by decide⟩,_,rfl,.inl ⟨_,_,rfl,rfl,_,rfl,_,_,rfl,rfl,(by show (0:Int) < n;omega),?_⟩⟩⟩
    dsimp only
    generalize hu:c / (n:Int) / 3+(0+(i':Int))=u
    have u0:=Int.emod_nonneg u nz
    have u1:=Int.emod_lt_of_pos u (show (0:Int) < n by omega)
    obtain ⟨t',et'⟩:∃ t:Nat,u % (n:Int)=(t:Int):=⟨(u % (n:Int)).toNat,by omega⟩
    rw [et']
    obtain ⟨hl1,hl2⟩:=M.len
    obtain ⟨l',el'⟩:∃ l,ls[t']?=some l:=⟨_,List.getElem?_eq_getElem (by omega)⟩
    obtain ⟨d',ed',hl',hl0',hlk'⟩:=M.yds.each _ _ el'
    have elV:(ls.map V.ref)[t']?=some (.ref l'):=by rw [List.getElem?_map,el'];rfl
    have hcnt':=M.count
    refine ⟨_,rfl,_,rfl,.inl ⟨kA,_,_,.ref l',rfl,rfl,SqL.of M.yds.lst,atI_nat elV,?_⟩⟩
    refine ⟨Nat.zero_le _,fun eL heL=>.inr ⟨dI d',dI [],.ints (SqL.of (upd_get hl' heL)),.ints (SqL.of upd_same),ok_ints _ _,ok_ints _ _,_,rfl,?_⟩⟩
    have sE:Same H7 (upd H7 eL (.lst [])):=Same.upd heL
    have yE:=M.yds.same sE
    have hlE:=sE _ _ hl'
    have ME:MdAt H (upd H7 eL (.lst [])) kA lA ls ns.length n b (i+1) st' ms':=⟨M.same.trans sE,M.go,M.val,M.came,yE,sE _ _ M.left⟩
    refine iteNB (fun hc=>?_) (fun hc=>⟨st',ms',_,_,rfl,ME⟩)
    have hne:d'≠[]:=fun z=>hc (by rw [z])
    refine ⟨_,rfl,.inl ⟨rfl,_,SqL.of ME.left⟩,_,rfl,b,rfl,?_⟩
    have hsm:(st'.left.map V.int).length < sizeLine:=by rw [List.length_map];exact small1000 (by omega)
    cases b with
    | true=>
     have hx:=List.dropLast_concat_getLast hne
     refine iteT ⟨_,rfl,_,rfl,.inl ⟨kA,_,_,.ref l',rfl,rfl,SqL.of yE.lst,atI_nat elV,.inl ⟨rfl,_,SqL.of hlE⟩,.inl ⟨l',_,.int (d'.getLast hne),rfl,rfl,hlE,?_,?_⟩⟩⟩
     ·rw [List.length_map,List.getElem?_map]
      have hp:=List.length_pos_iff.mpr hne
      rw [List.getElem?_eq_getElem (by omega),List.getLast_eq_getElem hne]
      rfl
     have hL6:upd (upd H7 eL (.lst [])) l' (.lst ((d'.map V.int).dropLast)) lA=some (.lst (st'.left.map V.int)):=by rw [upd_ne (ell _ _ el').symm];exact ME.left
     refine ⟨lA,_,_,rfl,rfl,hL6,hsm,?_⟩
     have M2:=leave M sE el' ed' (x:=d'.getLast hne) (c':=d'.dropLast) (by rw [if_pos rfl];exact hx.symm)
     rw [List.map_dropLast] at M2
     exact ⟨_,_,_,_,rfl,M2⟩
    | false=>
     obtain ⟨x,d2,rfl⟩:∃ x d2,d'=x :: d2:=by
      cases d' with
      | nil=>exact absurd rfl hne
      | cons x d2=>exact ⟨x,d2,rfl⟩
     refine iteF ⟨_,rfl,_,rfl,.inl ⟨kA,_,_,.ref l',rfl,rfl,SqL.of yE.lst,atI_nat elV,.inl ⟨rfl,_,SqL.of hlE⟩,.inr ⟨l',_,0,0,.int x,rfl,rfl,hlE,by decide,by decide,?_,rfl,?_⟩⟩⟩
     ·unfold seqIndex?
      simp
     have hL6:upd (upd H7 eL (.lst [])) l' (.lst (((x :: d2).map V.int).eraseIdx 0)) lA=some (.lst (st'.left.map V.int)):=by rw [upd_ne (ell _ _ el').symm];exact ME.left
     refine ⟨lA,_,_,rfl,rfl,hL6,hsm,?_⟩
     have M2:=leave M sE el' ed' (x:=x) (c':=d2) (by rw [if_neg Bool.false_ne_true])
     exact ⟨_,_,_,_,rfl,M2⟩
   ·rintro σ H7 ⟨st',ms',v6,v7,rfl,M⟩
    exact ⟨st',ms',_,_,_,rfl,M⟩
  rintro σ H5 ⟨st,ms,v5,v6,v7,rfl,M⟩
  obtain ⟨hl1,hl2⟩:=M.len
  have hcnt:=M.count
  refine ⟨_,rfl,kA,rfl,⟨_,SqL.of M.yds.lst⟩,?_⟩
  refine for_list (K:=K) (a:=kA) (xs:=ls.map V.ref) (MdB H5 a kA b n ns.length st.tr v5 v6)
   ⟨lA,st,ms,v7,rfl,Same.refl _,M.go,M.val,M.came,rfl,M.left⟩ (fun j σ H6 _ h=>?_) ?_ ?_
  ·obtain ⟨_,_,_,_,_,s6,_⟩:=h
   exact SqL.of (s6 _ _ M.yds.lst)
  ·rintro j x σ H6 hx ⟨qA,st',ms',v7',rfl,s6,hgo,hval,hcame,htr,hq⟩
   obtain ⟨l,el,rfl⟩:=getMap hx
   obtain ⟨d,ed,hl,hl0,hlk⟩:=M.yds.each _ _ el
   have hj:j < n:=by have:=(List.getElem?_eq_some_iff.mp el).1;omega
   have ed':st'.tr[j]?=some d:=by
    rw [htr,List.getElem?_append_right (by rw [List.length_replicate];exact Nat.le_refl _),List.length_replicate,Nat.sub_self,List.getElem?_drop,Nat.add_zero]
    exact ed
   have hcl:=Yd.clear (T:=Yd.R ns.length) (bl:=b) ed'
   have hcnt2:st'.left.length+(st'.tr.map List.length).sum=ns.length:=by
    rw [<- hcame]
    exact Yd.steps_count hgo (fun x hx=>by show x.2 < (List.replicate n ([]:List Int)).length;rw [List.length_replicate];exact hval x hx) (Yd.init_count n)
   have hdl:d.length <= (st'.tr.map List.length).sum:=Yd.le_sum (List.mem_map.mpr ⟨d,List.mem_of_getElem? ed',rfl⟩)
   have fin:∀ (H7:Hp) (e5:List Int) (q2:Addr),Same H6 H7->e5=(if b=true then d.reverse else d)->H7 q2=none->
     MdB H5 a kA b n ns.length st.tr v5 v6 (j+1) [some (V.ref a),some (.bl b),some (.int n),some (.ref kA),some (.ref q2),v5,v6,some (.ref l),none,none] (upd H7 q2 (.lst (st'.left.map V.int++e5.map V.int))):=fun H7 e5 q2 s7 he hq2=>by
    refine ⟨q2,⟨st'.tr.set j [],st'.left++e5,st'.came⟩,ms'++List.replicate d.length (false,j),_,rfl,(s6.trans s7).trans (Same.upd hq2),Yd.steps_trans hgo (by rw [hcl,he]),fun m hm=>?_,hcame,?_,by rw [upd_same,List.map_append]⟩
    ·rcases List.mem_append.mp hm with z | z
     ·exact hval m z
     ·rw [(List.mem_replicate.mp z).2];exact hj
    ·show st'.tr.set j []=_
     rw [htr]
     exact Yd.cleared (by omega)
   have hlE:=s6 _ _ hl
   refine ⟨_,rfl,_,rfl,b,rfl,?_⟩
   cases b with
   | true=>
    refine iteT ⟨_,rfl,1,rfl,_,rfl,rfl,l,_,rfl,SqL.of hlE,fun q1 hq1=>?_⟩
    rw [revV_all,<- List.map_reverse]
    refine .inr (.inl ⟨qA,q1,_,_,rfl,rfl,upd_get hq hq1,upd_same,?_,fun q2 hq2=>fin _ d.reverse q2 (Same.upd hq1) (by rw [if_pos rfl]) hq2⟩)
    rw [List.length_map,List.length_map,List.length_reverse]
    exact Nat.le_of_lt (small1000 (by omega))
   | false=>
    refine iteF ⟨_,rfl,.inr (.inl ⟨qA,l,_,_,rfl,rfl,hq,hlE,?_,fun q2 hq2=>fin _ d q2 (Same.refl _) (by rw [if_neg Bool.false_ne_true]) hq2⟩)⟩
    rw [List.length_map,List.length_map]
    exact Nat.le_of_lt (small1000 (by omega))
  rintro σ H6 ⟨qA,st',ms',v7',rfl,s6,hgo,hval,hcame,htr,hq⟩
  rw [List.length_map,hl2] at htr
  have hll:st'.left.length=ns.length:=by
   have h1:=Yd.steps_count hgo (fun x hx=>by show x.2 < (List.replicate n ([]:List Int)).length;rw [List.length_replicate];exact hval x hx) (Yd.init_count n)
   rw [htr,List.drop_of_length_le (by omega),List.append_nil,Yd.sum_nils,hcame] at h1
   omega
  have hperm:=Yd.left_perm hgo hval hll
  have hnd:st'.left.Nodup:=hperm.nodup_iff.mpr (Yd.R_nodup _)
  have hS6:=M.same.trans s6
  refine ⟨_,rfl,qA,rfl,⟨_,SqL.of hq⟩,fun tA htA=>?_⟩
  refine turns_list (K:=K) (a:=qA) (xs:=st'.left.map V.int) (fun i σ H7=>(∃ v,σ=[v]) /\ Same H6 H7 /\ H7 tA=some (.lst ((List.replicate i (0:Int)).map V.int)))
   ⟨⟨_,rfl⟩,Same.upd htA,upd_same⟩ (fun i σ H7 _ h=>SqL.of (h.2.1 _ _ hq)) ?_ ?_
  ·rintro i x σ H7 hx ⟨⟨v,rfl⟩,s7,h7⟩
   have hi:=(List.getElem?_eq_some_iff.mp hx).1
   rw [List.length_map] at hi
   refine ⟨_,h7,?_,⟨_,rfl⟩,Same.updN s7 htA,?_⟩
   ·rw [List.length_map,List.length_replicate]
    exact small1000 (by omega)
   ·rw [upd_same,List.replicate_succ',List.map_append]
    rfl
  rintro σ H7 ⟨_,s7,h7⟩
  rw [List.length_map] at h7
  have eqt:qA≠tA:=ne_of_none hq htA
  refine ⟨_,rfl,_,_,rfl,.inl ⟨_,SqL.of (s7 _ _ hq),rfl⟩,_,rfl,?_,?_,?_⟩
  ·rw [List.length_map];omega
  ·rw [List.length_map];omega
  rw [Int.toNat_natCast,List.length_map]
  refine for_range (lo:=0) (n:=st'.left.length) (fun i σ H8=>∃ (T:List Int) (v9:Option V),σ=[some (.ref a),some (.bl b),some (.int n),some (.ref kA),some (.ref qA),v5,v6,v7',some (.ref tA),v9] /\ Same H6 H8 /\ H8 tA=some (.lst (T.map V.int)) /\ T.length=ns.length /\
    ∀ (j:Nat) (x:Int),j < i->st'.left[j]?=some x->T[x.toNat]?=some (j:Int))
   ⟨List.replicate st'.left.length 0,_,rfl,s7,h7,by rw [List.length_replicate,hll],fun j x hj=>absurd hj (Nat.not_lt_zero _)⟩ ?_ ?_
  ·rintro i σ H8 hi ⟨T,v9,rfl,s8,h8,hTl,hTat⟩
   rw [show (0:Int)+(i:Int)=(i:Int) from Int.zero_add _]
   obtain ⟨x,ex⟩:∃ x,st'.left[i]?=some x:=⟨_,List.getElem?_eq_getElem hi⟩
   have rng:∀ {y:Int},y∈st'.left->0 <= y /\ y < ns.length:=fun hy=>Yd.R_mem (hperm.mem_iff.mp hy)
   obtain ⟨x0,x1⟩:=rng (List.mem_of_getElem? ex)
   obtain ⟨k,ek⟩:∃ k:Nat,x=(k:Int):=⟨x.toNat,by omega⟩
   refine ⟨_,rfl,_,rfl,_,rfl,_,rfl,.inl ⟨qA,_,_,.int x,rfl,rfl,SqL.of (s8 _ _ hq),atI_nat (by rw [List.getElem?_map,ex];rfl),tA,_,_,k,rfl,rfl,h8,?_,?_⟩⟩
   ·rw [ek]
    exact ixN_nat (by rw [List.length_map];omega)
   refine ⟨T.set k (i:Int),_,rfl,Same.updN s8 htA,by rw [upd_same,List.map_set],by rw [List.length_set];exact hTl,fun j y hj ey=>?_⟩
   obtain ⟨y0,y1⟩:=rng (List.mem_of_getElem? ey)
   by_cases hji:j=i
   ·subst hji
    rw [ex] at ey
    cases ey
    rw [ek,Int.toNat_natCast,List.getElem?_set_self (by omega)]
   ·have hne:y.toNat≠k:=fun z=>by
     have:x=y:=by omega
     subst this
     have h1:=(List.getElem?_eq_some_iff.mp ex)
     have h2:=(List.getElem?_eq_some_iff.mp ey)
     exact hji ((List.getElem_inj hnd).mp (h2.2.trans h1.2.symm))
    rw [List.getElem?_set_ne (Ne.symm hne)]
    exact hTat j y (by omega) ey
  ·rintro σ H8 ⟨T,v9,rfl,s8,h8,hTl,hTat⟩
   obtain ⟨B,hTp⟩:=Yd.made_brings hgo hval hll hTl fun j x e=>hTat j x (List.getElem?_eq_some_iff.mp e).1 e
   exact ⟨_,rfl,kQ tA T ms' H8 (hS6.trans s8) (hS6.free htA) h8 hTp B⟩
theorem far_at(s:Int):∃ far:Int,0 < far /\ far <= 10000000 /\ atI [V.int 1,V.int ((10:Int) ^ (7:Int).toNat),V.int 1] (s % 3)=some (.int far):=by
 have h1:=Int.emod_nonneg s (show (3:Int)≠0 by decide)
 have h2:=Int.emod_lt_of_pos s (show (0:Int) < 3 by decide)
 rcases (show s % 3=0 \/ s % 3=1 \/ s % 3=2 by omega) with e | e | e<;>rw [e]
 ·exact ⟨1,by decide,by decide,rfl⟩
 ·exact ⟨10000000,by decide,by decide,rfl⟩
 ·exact ⟨1,by decide,by decide,rfl⟩
def spI_inserted(K:PySem.W.Frag):Sp:=fun vs H Q _=>∃ (a:Addr) (ns:List Int),vs=[.ref a] /\ SqL K H a (ns.map V.int) /\ ns.length < 64 /\
 ∀ (p:Addr) (ps:List Nat) (far:Int) (H':Hp),Same H H'->H p=none->H' p=some (.lst ((ps.map (Ins.wag ns far)).map V.int))->0 < far->far <= 10000000->ps.Perm (List.range ns.length)->Q (.ref p) H'
theorem sc__law_inserted:FnScope ["_law_script", "_law_places", "_law_wagons", "_law_far", "_law_k", "_law_at"] ["_law_script"] (defScope s__law_inserted):=⟨rfl,rfl,rfl,by decide +kernel,rfl,by decide +kernel,by decide +kernel⟩
theorem C__law_inserted(T:Tx K mg Z):Ctr P w K mg base CX0 1 "_law_inserted" ["_law_script"] (spI_inserted K):=by
 refine ctr_of T._law_inserted fun f fd F=>F.ok sc__law_inserted (fun vs H Q E h=>?_) (fun cdv A outer s H vs Q E hr h=>?_)
 ·obtain ⟨a,ns,rfl,_⟩:=h
  rfl
 ·obtain ⟨a,ns,rfl,hS,hz,k⟩:=h
  refine' ⟨_,?hterm,?_⟩
  case hterm=>
   refine' pss_cons ?q1 ?q2
   case q1=>
    refine' ps_asg ?q3 ?q4 (hs:=by kernel_rfl) (hw:=by kernel_rfl)
    case q3=>
     refine' pe_tup ?q5
     case' q5=>refine' pa_cons ?q6 ?q7
     case q6=>exact pe_lst pa_nil
     case' q7=>refine' pa_cons ?q8 ?q9
     case q8=>exact pe_lst pa_nil
     case' q9=>refine' pa_cons ?q10 pa_nil
     case' q10=>refine' pe_ix (ix_K (K:=K) (by rfl)) ?q11 ?q12 (fun _ _=>rfl)
     case q11=>
      refine' pe_tup ?q13
      case' q13=>refine' pa_cons pe_int ?q14
      case' q14=>refine' pa_cons ?q15 ?q16
      case q15=>exact pe_op op_pow pe_int pe_int
      case q16=>exact pa_cons pe_int pa_nil
     case' q12=>refine' pe_op op_mod ?q17 pe_int
     case' q17=>refine' pe_callB (callK_sum (K:=K) (by rfl) (by rfl)) (by rfl) T.n_sum b_sum ?q18
     case q18=>exact pa_cons (pv 0) pa_nil
    case' q4=>refine' pg_tupK (K:=K) (n:=3) (by rfl) rfl ?q19
    case' q19=>refine' pgs_cons ?q20 ?q21
    case q20=>exact pg_name (i:=1) sc__law_inserted.nd (by rfl) (by exact Or.inl rfl)
    case' q21=>refine' pgs_cons ?q22 ?q23
    case q22=>exact pg_name (i:=2) sc__law_inserted.nd (by rfl) (by exact Or.inr rfl)
    case' q23=>refine' pgs_cons ?q24 pgs_nil
    case q24=>exact pg_name (i:=3) sc__law_inserted.nd (by rfl) (by exact Or.inl rfl)
   case' q2=>refine' pss_cons ?q25 ?q26
   case q25=>
    refine' ps_for HP rfl ?q27 ?q28 ?q29
    case q27=>
     refine' pi_range1 rfl T.n_range ?q30
     case' q30=>refine' pa_cons ?q31 pa_nil
     case' q31=>refine' pe_callB (callK_len (K:=K) (by rfl)) (by rfl) T.n_len b_len ?q32
     case q32=>exact pa_cons (pv 0) pa_nil
    case q28=>exact pg_name (i:=4) sc__law_inserted.nd (by rfl) (by exact Or.inl rfl)
    case' q29=>refine' pss_cons ?q33 ?q34
    case q33=>
     refine' ps_set (i:=5) sc__law_inserted.nd rfl (Or.inl rfl) ?q35
     case' q35=>refine' pe_op op_mod ?q36 ?q37
     case q36=>exact pe_ix (ix_K (K:=K) (by rfl)) (pv 0) (pv 4) (fun _ _=>rfl)
     case q37=>exact pe_op (op_addK (K:=K) (by rfl)) (pv 4) pe_int
    case' q34=>refine' pss_cons ?q38 ?q39
    case q38=>
     refine' ps_set (i:=1) sc__law_inserted.nd rfl (Or.inl rfl) ?q40
     case' q40=>refine' pe_op (op_addK (K:=K) (by rfl)) ?q41 ?q42
     case q41=>
      refine' pe_op (op_addK (K:=K) (by rfl)) ?q43 ?q44
      case q43=>
       refine' pe_slice (sl_K (K:=K) (by rfl)) (pv 1) po_none ?q45
       case q45=>exact po_some (pv 5)
      case' q44=>refine' pe_lst ?q46
      case q46=>exact pa_cons (pv 4) pa_nil
     case' q42=>refine' pe_slice (sl_K (K:=K) (by rfl)) (pv 1) ?q47 po_none
     case q47=>exact po_some (pv 5)
    case' q39=>refine' pss_one ?q48
    case' q48=>refine' ps_expr ?q49
    case' q49=>refine' pe_bmK (K:=K) (by rfl) PySem.F.plainAttrs_list PySem.F.slot_list_append PySem.F.type_list_append mt_append (pv 2) ?q50
    case' q50=>refine' pa_cons ?q51 pa_nil
    case' q51=>refine' pe_op op_mulU ?q52 (pv 3)
    case' q52=>refine' pe_op op_sub ?q53 pe_int
    case' q53=>refine' pe_op (op_addK (K:=K) (by rfl)) ?q54 ?q55
    case q54=>exact pe_op op_mulU pe_int (pv 4)
    case' q55=>refine' pe_op op_mod ?q56 pe_int
    case' q56=>refine' pe_op op_fdiv ?q57 pe_int
    case q57=>exact pe_ix (ix_K (K:=K) (by rfl)) (pv 0) (pv 4) (fun _ _=>rfl)
   case' q26=>refine' pss_one ?q58
   case' q58=>refine' ps_ret ?q59
   case' q59=>refine' pe_comp rfl (csc_of (sc:=defScope s__law_inserted) (N:=["_law_script", "_law_places", "_law_wagons", "_law_far", "_law_k", "_law_at"]) (cap:=[none,some 2]) (N':=["_law_k", "_law_wagons"]) rfl rfl ⟨ rfl,by decide +kernel,by decide +kernel,by decide +kernel,rfl,by decide +kernel ⟩) ?q60 (fun _ _ _ _=>?q61) (fun _ _ _ _=>pif_nil) (fun _ _ _ _=>?q62)
   case q60=>exact pi_listK (K:=K) (by rfl) (pv 1)
   case q61=>exact pg_name (i:=0) (show List.Nodup (["_law_k", "_law_wagons"]:List Str) from by decide +kernel) (by rfl) (by exact Or.inl rfl)
   case q62=>exact pe_ix (ix_K (K:=K) (by rfl)) (pv 1) (pv 0) (fun _ _=>rfl)
  obtain ⟨far,hf1,hf2,hat⟩:=far_at ns.sum
  refine ⟨Nat.zero_le _,fun pA hpA=>⟨Nat.zero_le _,fun wA hwA=>?_⟩⟩
  have s1:Same H (upd (upd H pA (.lst [])) wA (.lst [])):=(Same.upd hpA).trans (Same.upd hwA)
  refine ⟨10,7,rfl,rfl,⟨by decide,by decide,by decide⟩,(by show 3 <= sizeLine;decide),fun tA htA=>?_⟩
  have s2:=s1.trans (Same.upd (o:=.tup [.int 1,.int ((10:Int) ^ (7:Int).toNat),.int 1]) htA)
  refine ⟨_,rfl,a,ns,rfl,s2.seq hS,_,3,rfl,rfl,(by show (0:Int) < 3;decide),.inr ⟨tA,_,_,.int far,rfl,rfl,SqT.of upd_same,hat,?_⟩⟩
  refine ⟨(by show 3 <= sizeLine;decide),fun uA huA=>⟨uA,_,rfl,SqT.of upd_same,rfl,_,_,rfl,_,_,rfl,_,_,rfl,rfl,?_⟩⟩
  have s3:=s2.trans (Same.upd (o:=.tup [.ref pA,.ref wA,.int far]) huA)
  have epw:pA≠wA:=ne_of_none upd_same hwA
  refine ⟨_,rfl,_,_,rfl,.inl ⟨_,s3.seq hS,rfl⟩,_,rfl,?_,?_,?_⟩
  ·rw [List.length_map];omega
  ·rw [List.length_map];omega
  rw [Int.toNat_natCast,List.length_map]
  have hp0:upd (upd (upd (upd H pA (.lst [])) wA (.lst [])) tA (.tup [.int 1,.int ((10:Int) ^ (7:Int).toNat),.int 1])) uA (.tup [.ref pA,.ref wA,.int far]) pA=some (.lst []):=upd_get (upd_get (upd_get upd_same hwA) htA) huA
  have hw0:upd (upd (upd (upd H pA (.lst [])) wA (.lst [])) tA (.tup [.int 1,.int ((10:Int) ^ (7:Int).toNat),.int 1])) uA (.tup [.ref pA,.ref wA,.int far]) wA=some (.lst []):=upd_get (upd_get upd_same htA) huA
  have hwH:H wA=none:=(Same.upd hpA).free hwA
  refine for_range (lo:=0) (n:=ns.length) (fun i σ H2=>∃ (qA:Addr) (ps:List Nat) (v4 v5:Option V),σ=[some (.ref a),some (.ref qA),some (.ref wA),some (.int far),v4,v5] /\ Same H H2 /\ ps.Perm (List.range i) /\
    H2 qA=some (.lst (ps.map fun (j:Nat)=>V.int (j:Int))) /\ H2 wA=some (.lst ((List.range i).map fun j=>V.int (Ins.wag ns far j))) /\ qA≠wA)
   ⟨pA,[],none,none,rfl,s3,.refl _,hp0,hw0,epw⟩ ?_ ?_
  ·rintro i σ H2 hi ⟨qA,ps,v4,v5,rfl,sm,hperm,hq,hw,eqw⟩
   obtain ⟨c,ec⟩:∃ c,ns[i]?=some c:=⟨_,List.getElem?_eq_getElem hi⟩
   have ecV:(ns.map V.int)[i]?=some (.int c):=by rw [List.getElem?_map,ec];rfl
   have eD:ns.getD i 0=c:=by rw [List.getD_eq_getElem?_getD,ec];rfl
   rw [show (0:Int)+(i:Int)=(i:Int) from Int.zero_add _]
   have hpl:ps.length=i:=by rw [hperm.length_eq,List.length_range]
   refine ⟨_,rfl,_,rfl,.inl ⟨a,_,_,.int c,rfl,rfl,sm.seq hS,atI_nat ecV,?_⟩⟩
   refine ⟨_,rfl,.inl ⟨_,1,rfl,rfl,_,_,rfl,rfl,(by omega),?_⟩⟩
   have a0:=Int.emod_nonneg c (show (i:Int)+1≠0 by omega)
   have a1:=Int.emod_lt_of_pos c (show (0:Int) < (i:Int)+1 by omega)
   obtain ⟨at_,hat⟩:∃ n:Nat,c % ((i:Int)+1)=(n:Int):=⟨(c % ((i:Int)+1)).toNat,by omega⟩
   dsimp only
   rw [hat]
   refine ⟨_,rfl,_,rfl,_,rfl,qA,_,rfl,SqL.of hq,fun b1 hb1=>?_⟩
   rw [cutV_to,<- List.map_take]
   refine ⟨_,rfl,(by show 1 <= sizeLine;decide),fun b2 hb2=>?_⟩
   refine .inr (.inl ⟨b1,b2,_,_,rfl,rfl,upd_get upd_same hb2,upd_same,?_,fun b3 hb3=>?_⟩)
   ·simp only [List.length_map,List.length_take,List.length_cons,List.length_nil]
    exact Nat.le_of_lt (small1000 (by omega))
   have t1:Same H2 (upd (upd (upd H2 b1 (.lst ((ps.take at_).map fun (j:Nat)=>V.int (j:Int)))) b2 (.lst [.int i])) b3 (.lst ((ps.take at_).map (fun (j:Nat)=>V.int (j:Int))++[.int i]))):=((Same.upd hb1).trans (Same.upd hb2)).trans (Same.upd hb3)
   refine ⟨_,rfl,_,rfl,_,rfl,qA,_,rfl,SqL.of (t1 _ _ hq),fun b4 hb4=>?_⟩
   rw [cutV_from,<- List.map_drop]
   refine .inr (.inl ⟨b3,b4,_,_,rfl,rfl,upd_get upd_same hb4,upd_same,?_,fun b5 hb5=>?_⟩)
   ·simp only [List.length_append,List.length_map,List.length_take,List.length_drop,List.length_cons,List.length_nil]
    exact Nat.le_of_lt (small1000 (by omega))
   have t2:=(t1.trans (Same.upd (o:=.lst ((ps.drop at_).map fun (j:Nat)=>V.int (j:Int))) hb4)).trans (Same.upd (o:=.lst ((ps.take at_).map (fun (j:Nat)=>V.int (j:Int))++[.int i]++(ps.drop at_).map (fun (j:Nat)=>V.int (j:Int)))) hb5)
   have hw5:=t2 _ _ hw
   have e5w:b5≠wA:=fun z=>by
    rw [z] at hb5
    have:=t1.trans (Same.upd (o:=.lst ((ps.drop at_).map fun (j:Nat)=>V.int (j:Int))) hb4) _ _ hw
    rw [this] at hb5
    cases hb5
   refine ⟨_,rfl,.inl ⟨rfl,_,SqL.of hw5⟩,?_⟩
   refine ⟨_,rfl,.inl ⟨7,_,rfl,rfl,.inl ⟨by decide,by decide⟩,?_⟩⟩
   refine ⟨_,rfl,_,rfl,.inl ⟨a,_,_,.int c,rfl,rfl,(sm.trans t2).seq hS,atI_nat ecV,?_⟩⟩
   refine ⟨_,3,rfl,rfl,⟨by decide,by decide⟩,_,7,rfl,rfl,(by show (0:Int) < 7;decide),.inl ⟨_,_,rfl,rfl,_,90,rfl,rfl,_,rfl,.inl ⟨_,far,rfl,rfl,.inr ⟨by omega,by omega⟩,?_⟩⟩⟩
   refine ⟨wA,_,_,rfl,rfl,hw5,?_,?_⟩
   ·rw [List.length_map,List.length_range]
    exact small1000 (by omega)
   refine ⟨b5,ps.take at_++[i]++ps.drop at_,_,_,rfl,Same.updN (sm.trans t2) hwH,Ins.perm_ins hperm,?_,?_,e5w⟩
   ·rw [upd_ne e5w,upd_same,List.map_append,List.map_append]
    rfl
   ·rw [upd_same,List.range_succ,List.map_append]
    show some (HO.lst (_++[V.int ((7*(i:Int)+c / 3 % 7 - 90)*far)]))=some (HO.lst (_++[V.int (Ins.wag ns far i)]))
    unfold Ins.wag
    rw [eD]
  ·rintro σ H2 ⟨qA,ps,v4,v5,rfl,sm,hperm,hq,hw,eqw⟩
   refine ⟨_,rfl,qA,rfl,⟨_,SqL.of hq⟩,fun p hp=>?_⟩
   refine turns_list (K:=K) (a:=qA) (xs:=ps.map fun (j:Nat)=>V.int (j:Int)) (fun i σ H3=>(∃ v,σ=[v,some (.ref wA)]) /\ Same H2 H3 /\ H3 p=some (.lst (((ps.take i).map (Ins.wag ns far)).map V.int)))
    ⟨⟨_,rfl⟩,Same.upd hp,upd_same⟩ (fun i σ H3 _ h=>SqL.of (h.2.1 _ _ hq)) ?_ ?_
   ·rintro i x σ H3 hx ⟨⟨v,rfl⟩,s4,h4⟩
    obtain ⟨j,ej,rfl⟩:=getMap hx
    have hj:j < ns.length:=Ins.perm_lt hperm (List.mem_of_getElem? ej)
    refine ⟨_,rfl,_,rfl,.inl ⟨wA,_,_,.int (Ins.wag ns far j),rfl,rfl,SqL.of (s4 _ _ hw),atI_nat ?_,_,h4,?_,⟨_,rfl⟩,Same.updN s4 hp,?_⟩⟩
    ·rw [List.getElem?_map,List.getElem?_range hj]
     rfl
    ·rw [List.length_map,List.length_map,List.length_take]
     have:ps.length=ns.length:=by rw [hperm.length_eq,List.length_range]
     exact small1000 (by omega)
    ·rw [upd_same,take_snoc ej,List.map_append,List.map_append]
     rfl
   ·rintro σ H3 ⟨_,s4,h4⟩
    rw [List.length_map,List.take_length] at h4
    exact k p ps far H3 (sm.trans s4) (sm.free hp) h4 hf1 hf2 hperm
theorem sc_one_blind:FnScope ["train"] ["train"] (defScope s_one_blind):=⟨rfl,rfl,rfl,by decide +kernel,rfl,by decide +kernel,by decide +kernel⟩
theorem C_one_blind(T:Tx K mg Z):Ctr P w K mg base CX0 7 "one_blind" ["train"] (sp_one Z):=by
 refine ctr_of T.one_blind fun f fd F=>F.ok sc_one_blind (fun vs H Q E h=>?_) (fun cdv A outer s H vs Q E hr h=>?_)
 ·obtain ⟨a,T,rfl,_⟩:=h
  rfl
 ·obtain ⟨a,tr,rfl,ha,hnd,hz,hTab,k⟩:=h
  refine' ⟨_,?hterm,?_⟩
  case hterm=>
   refine' pss_one ?q1
   case' q1=>refine' ps_ret ?q2
   case' q2=>refine' pe_callC (C_through_one_blind T) (hr.mono (by decide)) rfl ?q3
   case' q3=>refine' pa_cons ?q4 pa_nil
   case' q4=>refine' pe_callC (C_checked_train T) (hr.mono (by decide)) rfl ?q5
   case q5=>exact pa_cons (pv 0) pa_nil
  refine ⟨_,rfl,a,tr,rfl,ha,hz,hnd,fun wA H1 s1 f1 h1=>?_⟩
  exact ⟨wA,tr,rfl,h1,hnd,hz,hTab.same s1,fun p an H' s2 hp hat hok hnew=>k p an H' (s1.trans s2) (s1.free hp) hat hok fun mA gs e=>s1.free (hnew mA gs e)⟩
def sp_goes(Z:Adr):Sp:=fun vs H Q _=>∃ (a:Addr) (T:List Int),vs=[.ref a] /\ H a=some (.lst (T.map V.int)) /\ T.Nodup /\ T.length < 200 /\ TabH Z H /\
 ∀ (b:Bool) (H':Hp),Same H H'->((b=true /\ ∃ ms,Yd.Brings T true 1 ms) \/ (b=false /\ ∃ i j k,threeB T i j k=true))->Q (.bl b) H'
theorem sc__law_goes:FnScope ["_law_train"] ["_law_train"] (defScope s__law_goes):=⟨rfl,rfl,rfl,by decide +kernel,rfl,by decide +kernel,by decide +kernel⟩
theorem C__law_goes(T:Tx K mg Z):Ctr P w K mg base CX0 8 "_law_goes" ["_law_train"] (sp_goes Z):=by
 refine ctr_of T._law_goes fun f fd F=>F.ok sc__law_goes (fun vs H Q E h=>?_) (fun cdv A outer s H vs Q E hr h=>?_)
 ·obtain ⟨a,T,rfl,_⟩:=h
  rfl
 ·obtain ⟨a,tr,rfl,ha,hnd,hz,hTab,k⟩:=h
  refine' ⟨_,?hterm,?_⟩
  case hterm=>
   refine' pss_one ?q1
   case' q1=>refine' ps_ret ?q2
   case' q2=>refine' pe_callB (callK_isinstance (K:=K) (by rfl)) (by rfl) T.n_isinstance b_isinstance ?q3
   case' q3=>refine' pa_cons ?q4 ?q5
   case q4=>
    refine' pe_callC (C_one_blind T) (hr.mono (by decide)) rfl ?q6
    case q6=>exact pa_cons (pv 0) pa_nil
   case' q5=>refine' pa_cons ?q7 pa_nil
   case q7=>exact pe_clsN (by rfl) T.c_Shunted
  refine ⟨_,rfl,a,tr,rfl,ha,hnd,hz,hTab,fun p an H1 s1 hp hat hok hnew=>?_⟩
  cases an with
  | sh mA gs=>
   obtain ⟨⟨dx,fs,g1,_⟩,_⟩:=hat
   exact ⟨_,_,_,_,_,rfl,rfl,ref_inj,T.y_Shunted.ty T.k_Shunted g1,kit_same,k true H1 s1 (.inl ⟨rfl,shunt_brings hok⟩)⟩
  | th i j l=>
   obtain ⟨dx,fs,g1,_⟩:=hat
   exact ⟨_,_,_,_,_,rfl,rfl,ref_inj,T.y_Three.ty T.k_Three g1,T.kit_Three_Shunted,k false H1 s1 (.inr ⟨rfl,i,j,l,hok⟩)⟩
def sp_goes2(Z:Adr):Sp:=fun vs H Q _=>∃ (a:Addr) (T:List Int),vs=[.ref a] /\ H a=some (.lst (T.map V.int)) /\ T.Nodup /\ T.length < 200 /\ TabH Z H /\
 ∀ (b:Bool) (H':Hp),Same H H'->((b=true /\ ∃ ms,Yd.Brings T true 2 ms) \/ (b=false /\ ∃ ring shw,OddOk T ring shw))->Q (.bl b) H'
theorem sc__law_goes_by_two:FnScope ["_law_train"] ["_law_train"] (defScope s__law_goes_by_two):=⟨rfl,rfl,rfl,by decide +kernel,rfl,by decide +kernel,by decide +kernel⟩
theorem C__law_goes_by_two(T:Tx K mg Z):Ctr P w K mg base CX0 8 "_law_goes_by_two" ["_law_train"] (sp_goes2 Z):=by
 refine ctr_of T._law_goes_by_two fun f fd F=>F.ok sc__law_goes_by_two (fun vs H Q E h=>?_) (fun cdv A outer s H vs Q E hr h=>?_)
 ·obtain ⟨a,T,rfl,_⟩:=h
  rfl
 ·obtain ⟨a,tr,rfl,ha,hnd,hz,hTab,k⟩:=h
  refine' ⟨_,?hterm,?_⟩
  case hterm=>
   refine' pss_one ?q1
   case' q1=>refine' ps_ret ?q2
   case' q2=>refine' pe_callB (callK_isinstance (K:=K) (by rfl)) (by rfl) T.n_isinstance b_isinstance ?q3
   case' q3=>refine' pa_cons ?q4 ?q5
   case q4=>
    refine' pe_callC (C_two_blind T) (hr.mono (by decide)) rfl ?q6
    case q6=>exact pa_cons (pv 0) pa_nil
   case' q5=>refine' pa_cons ?q7 pa_nil
   case q7=>exact pe_clsN (by rfl) T.c_Shunted
  refine ⟨_,rfl,a,tr,rfl,ha,hnd,hz,hTab,fun p an H1 s1 hp hat hok hnew=>?_⟩
  cases an with
  | sh mA gs=>
   obtain ⟨⟨dx,fs,g1,_⟩,_⟩:=hat
   exact ⟨_,_,_,_,_,rfl,rfl,ref_inj,T.y_Shunted.ty T.k_Shunted g1,kit_same,k true H1 s1 (.inl ⟨rfl,shunt_brings hok⟩)⟩
  | od pA sA ring shw=>
   obtain ⟨dx,g1,_⟩:=hat
   exact ⟨_,_,_,_,_,rfl,rfl,ref_inj,T.y_Odd.ty T.k_Odd g1,T.kit_Odd_Shunted,k false H1 s1 (.inr ⟨rfl,ring,shw,hok⟩)⟩
theorem both_one{A B:List Int}{bT bA bB:Bool}(hT:(bT=true /\ ∃ ms,Yd.Brings (dueL A B) true 1 ms) \/ (bT=false /\ ∃ i j k,threeB (dueL A B) i j k=true))
  (hA:(bA=true /\ ∃ ms,Yd.Brings A true 1 ms) \/ (bA=false /\ ∃ i j k,threeB A i j k=true)) (hB:(bB=true /\ ∃ ms,Yd.Brings B true 1 ms) \/ (bB=false /\ ∃ i j k,threeB B i j k=true)):bT=(bA&&bB):=by
 rcases hT with ⟨rfl,ms,b⟩ | ⟨rfl,i,j,k,t⟩
 ·rcases hA with ⟨rfl,_⟩ | ⟨_,i,j,k,t⟩
  ·rcases hB with ⟨rfl,_⟩ | ⟨_,i,j,k,t⟩
   ·rfl
   ·exact ((shows_two A B).no_three t b).elim
  ·exact ((shows_one A B).no_three t b).elim
 ·rcases hA with ⟨rfl,a⟩ | ⟨rfl,_⟩
  ·rcases hB with ⟨rfl,b⟩ | ⟨rfl,_⟩
   ·obtain ⟨ms,c⟩:=due_brings a b
    exact (three_not t c).elim
   ·rfl
  ·rfl
theorem both_two{A B:List Int}{bT bA bB:Bool}(hT:(bT=true /\ ∃ ms,Yd.Brings (dueL A B) true 2 ms) \/ (bT=false /\ ∃ ring shw,OddOk (dueL A B) ring shw))
  (hA:(bA=true /\ ∃ ms,Yd.Brings A true 2 ms) \/ (bA=false /\ ∃ ring shw,OddOk A ring shw)) (hB:(bB=true /\ ∃ ms,Yd.Brings B true 2 ms) \/ (bB=false /\ ∃ ring shw,OddOk B ring shw)):bT=(bA&&bB):=by
 rcases hT with ⟨rfl,ms,b⟩ | ⟨rfl,ring,shw,t⟩
 ·rcases hA with ⟨rfl,_⟩ | ⟨_,ring,shw,t⟩
  ·rcases hB with ⟨rfl,_⟩ | ⟨_,ring,shw,t⟩
   ·rfl
   ·exact ((shows_two A B).no_odd t b).elim
  ·exact ((shows_one A B).no_odd t b).elim
 ·rcases hA with ⟨rfl,a⟩ | ⟨rfl,_⟩
  ·rcases hB with ⟨rfl,b⟩ | ⟨rfl,_⟩
   ·obtain ⟨ms,c⟩:=due_brings a b
    exact (c.no_odd (ps:=fun k=>ring.getD k 0) (sh:=fun k=>shw.getD k 0) t.odd (by have:=t.three;omega) t.at_).elim
   ·rfl
  ·rfl
theorem not_one{A B:List Int}{bT bA:Bool}(hT:(bT=true /\ ∃ ms,Yd.Brings (dueL A B) true 1 ms) \/ (bT=false /\ ∃ i j k,threeB (dueL A B) i j k=true))
  (hA:(bA=true /\ ∃ ms,Yd.Brings A true 1 ms) \/ (bA=false /\ ∃ i j k,threeB A i j k=true)) (h:bA=false):bT=false:=by
 subst h
 obtain ⟨i,j,k,t⟩:=(hA.resolve_left fun z=>by cases z.1).2
 rcases hT with ⟨_,ms,b⟩ | z
 ·exact ((shows_one A B).no_three t b).elim
 ·exact z.1
theorem not_two{A B:List Int}{bT bA:Bool}(hT:(bT=true /\ ∃ ms,Yd.Brings (dueL A B) true 2 ms) \/ (bT=false /\ ∃ ring shw,OddOk (dueL A B) ring shw))
  (hA:(bA=true /\ ∃ ms,Yd.Brings A true 2 ms) \/ (bA=false /\ ∃ ring shw,OddOk A ring shw)) (h:bA=false):bT=false:=by
 subst h
 obtain ⟨ring,shw,t⟩:=(hA.resolve_left fun z=>by cases z.1).2
 rcases hT with ⟨_,ms,b⟩ | z
 ·exact ((shows_one A B).no_odd t b).elim
 ·exact z.1
theorem behind_due{A B:List Int}{o1 o2:List Nat}(h1:Rank A o1)(h2:Rank B o2)(a:A.Nodup)(b:B.Nodup):ordV (behindL (rankL A o1) (rankL B o2))=(dueL A B).map V.int:=by
 have r:∀ {A:List Int} {o:List Nat},Rank A o->A.Nodup->∀ (d:Nat),(rankL A o).map (fun r=>V.int ((r+d:Nat):Int))=A.map fun x=>V.int ((cnt A x:Int)+(d:Int)):=fun {A o} h n d=>by
  unfold rankL
  rw [List.map_map]
  refine List.ext_getElem? fun p=>?_
  rw [List.getElem?_map,List.getElem?_map]
  by_cases hp:p < A.length
  ·rw [List.getElem?_range hp,List.getElem?_eq_getElem hp]
   have:=rank_cnt h n hp
   rw [List.getD_eq_getElem?_getD,List.getElem?_eq_getElem hp] at this
   have this':cnt A A[p]=o.idxOf p:=this
   show some (V.int ((o.idxOf p+d:Nat):Int))=some (V.int ((cnt A A[p]:Int)+(d:Int)))
   rw [this']
   rfl
  ·rw [List.getElem?_eq_none_iff.mpr (by rw [List.length_range];omega),List.getElem?_eq_none_iff.mpr (by omega)]
   rfl
 have l1:(rankL A o1).length=A.length:=by unfold rankL;rw [List.length_map,List.length_range]
 show List.map (fun (p:Nat)=>V.int (p:Int)) (rankL A o1++(rankL B o2).map fun r=>r+(rankL A o1).length)=_
 unfold dueL
 rw [List.map_append,List.map_append,List.map_map,List.map_map,List.map_map,l1]
 have e1:=r h1 a 0
 have e2:=r h2 b A.length
 exact congr (congrArg _ e1) e2
end
end My
namespace My
open PySem L2
open PySem.W (Dat)
section
variable {P:Program} {w:World} {K:PySem.W.Frag} {mg:Str->Option Value} {base:Heap} {Z:Adr}
def TrAt(H:Hp)(a:Addr)(T:List Int):Prop:=H a=some (.lst (T.map V.int)) /\ T.Nodup /\ T.length < 64
theorem TrAt.same{H H':Hp}{a:Addr}{T:List Int}(h:TrAt H a T)(s:Same H H'):TrAt H' a T:=⟨s _ _ h.1,h.2⟩
theorem sc_law:FnScope ["_law_script", "_law_some", "_law_first", "_law_second", "_law_one", "_law_other", "_law_due", "_law_handed", "_law_again", "_law_found"] ["_law_script"] (defScope s_law):=⟨rfl,rfl,rfl,by decide +kernel,rfl,by decide +kernel,by decide +kernel⟩
theorem ok_law {f:Addr} {fd:FuncData} (T:Tx K mg Z) (F:Fun K "law" "law" s_law f fd):FnOk P w K mg base CX0 11 f fd ["_law_script"] (sp_law K):=by
 refine F.ok sc_law (fun vs H Q E h=>?_) (fun cdv A outer s H vs Q E hr h=>?_)
 ·obtain ⟨a,ns,rfl,_⟩:=h
  rfl
 ·obtain ⟨a,ns,rfl,hS,hz,hL,kQ⟩:=h
  have hTab:=TabH.of T hL
  refine' ⟨_,?hterm,?_⟩
  case hterm=>
   refine' pss_cons ?q1 ?q2
   case q1=>
    refine' ps_set (i:=1) sc_law.nd rfl (Or.inl rfl) ?q3
    case' q3=>refine' pe_lst ?q4
    case' q4=>refine' pa_cons ?q5 ?q6
    case q5=>
     refine' pe_callC (C__law_inserted T) (hr.mono (by decide)) rfl ?q7
     case q7=>exact pa_cons (pv 0) pa_nil
    case' q6=>refine' pa_cons ?q8 ?q9
    case q8=>
     refine' pe_callC (C__law_inserted T) (hr.mono (by decide)) rfl ?q10
     case' q10=>refine' pa_cons ?q11 pa_nil
     case' q11=>refine' pe_rev (K:=K) (by rfl) (pv 0) po_none ?q12
     case' q12=>refine' po_some ?q13
     case q13=>exact pe_un un_neg pe_int
    case' q9=>refine' pa_cons ?q14 ?q15
    case q14=>
     refine' pe_callC (C__law_made T) (hr.mono (by decide)) rfl ?q16
     case' q16=>refine' pa_cons (pv 0) ?q17
     case' q17=>refine' pa_cons pe_bl ?q18
     case q18=>exact pa_cons pe_int pa_nil
    case' q15=>refine' pa_cons ?q19 pa_nil
    case q19=>exact pe_lst pa_nil
   case' q2=>refine' pss_cons ?q20 ?q21
   case q20=>
    refine' ps_expr ?q22
    case' q22=>refine' pe_bmK (K:=K) (by rfl) PySem.F.plainAttrs_list PySem.F.slot_list_append PySem.F.type_list_append mt_append (pv 1) ?q23
    case' q23=>refine' pa_cons ?q24 pa_nil
    case' q24=>refine' pe_callC (C__law_spoiled T) (hr.mono (by decide)) rfl ?q25
    case' q25=>refine' pa_cons ?q26 ?q27
    case q26=>exact pe_ix (ix_K (K:=K) (by rfl)) (pv 1) pe_int (fun _ _=>rfl)
    case q27=>exact pa_cons (pv 0) pa_nil
   case' q21=>refine' pss_cons ?q28 ?q29
   case q28=>
    refine' ps_for HP rfl ?q30 ?q31 ?q32
    case q30=>
     refine' pi_listK (K:=K) (by rfl) ?q33
     case' q33=>refine' pe_lst ?q34
     case' q34=>refine' pa_cons ?q35 ?q36
     case q35=>
      refine' pe_tup ?q37
      case' q37=>refine' pa_cons pe_int ?q38
      case q38=>exact pa_cons pe_int pa_nil
     case' q36=>refine' pa_cons ?q39 ?q40
     case q39=>
      refine' pe_tup ?q41
      case' q41=>refine' pa_cons pe_int ?q42
      case q42=>exact pa_cons pe_int pa_nil
     case' q40=>refine' pa_cons ?q43 pa_nil
     case' q43=>refine' pe_tup ?q44
     case' q44=>refine' pa_cons pe_int ?q45
     case q45=>exact pa_cons pe_int pa_nil
    case q31=>
     refine' pg_tupK (K:=K) (n:=2) (by rfl) rfl ?q46
     case' q46=>refine' pgs_cons ?q47 ?q48
     case q47=>exact pg_name (i:=2) sc_law.nd (by rfl) (by exact Or.inl rfl)
     case' q48=>refine' pgs_cons ?q49 pgs_nil
     case q49=>exact pg_name (i:=3) sc_law.nd (by rfl) (by exact Or.inl rfl)
    case' q32=>refine' pss_cons ?q50 ?q51
    case q50=>
     refine' ps_par (i:=4) (j:=5) rfl sc_law.nd rfl rfl (by decide) rfl rfl ?q52 (by kernel_rfl) (hs:=by kernel_rfl)
     case' q52=>refine' pa_cons ?q53 ?q54
     case q53=>exact pe_ix (ix_K (K:=K) (by rfl)) (pv 1) (pv 2) (fun _ _=>rfl)
     case' q54=>refine' pa_cons ?q55 pa_nil
     case q55=>exact pe_ix (ix_K (K:=K) (by rfl)) (pv 1) (pv 3) (fun _ _=>rfl)
    case' q51=>refine' pss_cons ?q56 ?q57
    case q56=>
     refine' ps_set (i:=6) sc_law.nd rfl (Or.inl rfl) ?q58
     case' q58=>refine' pe_op (op_addK (K:=K) (by rfl)) ?q59 ?q60
     case q59=>
      refine' pe_callC (C__law_numbered T) (hr.mono (by decide)) rfl ?q61
      case q61=>
       refine' pa_cons (pv 4) ?q62
       case q62=>exact pa_cons pe_int pa_nil
     case' q60=>refine' pe_callC (C__law_numbered T) (hr.mono (by decide)) rfl ?q63
     case' q63=>refine' pa_cons (pv 5) ?q64
     case' q64=>refine' pa_cons ?q65 pa_nil
     case' q65=>refine' pe_callB (callK_len (K:=K) (by rfl)) (by rfl) T.n_len b_len ?q66
     case q66=>exact pa_cons (pv 4) pa_nil
    case' q57=>refine' pss_cons ?q67 ?q68
    case q67=>
     refine' ps_set (i:=7) sc_law.nd rfl (Or.inl rfl) ?q69
     case' q69=>refine' pe_lst ?q70
     case' q70=>refine' pa_cons ?q71 ?q72
     case q71=>
      refine' pe_callTy (callK_list (K:=K) (by rfl)) (by rfl) T.n_list b_list ?q73
      case q73=>exact pa_cons (pv 4) pa_nil
     case' q72=>refine' pa_cons ?q74 pa_nil
     case' q74=>refine' pe_callTy (callK_list (K:=K) (by rfl)) (by rfl) T.n_list b_list ?q75
     case q75=>exact pa_cons (pv 5) pa_nil
    case' q68=>refine' pss_cons ?q76 ?q77
    case q76=>
     refine' ps_for HP rfl ?q78 ?q79 ?q80
     case q78=>
      refine' pi_range1 rfl T.n_range ?q81
      case q81=>exact pa_cons pe_int pa_nil
     case q79=>exact pg_name (i:=8) sc_law.nd (by rfl) (by exact Or.inl rfl)
     case' q80=>refine' pss_cons ?q82 ?q83
     case q82=>
      refine' ps_set (i:=9) sc_law.nd rfl (Or.inl rfl) ?q84
      case' q84=>refine' pe_callC (C_behind T) (hr.mono (by decide)) rfl ?q85
      case' q85=>refine' pa_cons ?q86 ?q87
      case q86=>exact pe_ix (ix_K (K:=K) (by rfl)) (pv 7) pe_int (fun _ _=>rfl)
      case' q87=>refine' pa_cons ?q88 pa_nil
      case q88=>exact pe_ix (ix_K (K:=K) (by rfl)) (pv 7) pe_int (fun _ _=>rfl)
     case' q83=>refine' pss_cons ?q89 ?q90
     case q89=>
      refine' ps_if ?q91 ?q92 pss_nil
      case q91=>
       refine' PW.pt ?q93
       case' q93=>refine' pw_or ?q94 ?q95
       case q94=>
        refine' pt_not ?q96
        case' q96=>refine' pt_truK (K:=K) (by rfl) ?q97 (fun _=>rfl)
        case' q97=>refine' pe_callB (callK_isinstance (K:=K) (by rfl)) (by rfl) T.n_isinstance b_isinstance ?q98
        case' q98=>refine' pa_cons (pv 9) ?q99
        case' q99=>refine' pa_cons ?q100 pa_nil
        case q100=>exact pe_tyN rfl T.n_list b_list
       case' q95=>refine' pw_or ?q101 ?q102
       case q101=>exact pt_cmpR (op_neK (K:=K) (by rfl) (by exact hr.units)) (pv 9) (pv 6) (nomark _)
       case' q102=>refine' pw_or1 ?q103
       case' q103=>refine' pt_cmpR (op_neK (K:=K) (by rfl) (by exact hr.units)) (pv 7) ?q104 (nomark _)
       case' q104=>refine' pe_lst ?q105
       case' q105=>refine' pa_cons (pv 4) ?q106
       case q106=>exact pa_cons (pv 5) pa_nil
      case' q92=>refine' pss_one ?q107
      case q107=>exact ps_ret pe_bl
     case' q90=>refine' pss_one ?q108
     case' q108=>refine' ps_expr ?q109
     case' q109=>refine' pe_bmK (K:=K) (by rfl) PySem.F.plainAttrs_list PySem.F.slot_list_append PySem.F.type_list_append mt_append (pv 9) ?q110
     case' q110=>refine' pa_cons ?q111 pa_nil
     case q111=>exact pe_un un_neg pe_int
    case' q77=>refine' pss_cons ?q112 ?q113
    case q112=>
     refine' ps_if ?q114 ?q115 pss_nil
     case q114=>
      refine' pt_cmpR (op_neK (K:=K) (by rfl) (by exact hr.units)) ?q116 ?q117 (nomark _)
      case q116=>
       refine' pe_callC (C__law_goes T) (hr.mono (by decide)) rfl ?q118
       case q118=>exact pa_cons (pv 6) pa_nil
      case' q117=>refine' pe_and ?q119 ?q120
      case q119=>
       refine' pe_callC (C__law_goes T) (hr.mono (by decide)) rfl ?q121
       case q121=>exact pa_cons (pv 4) pa_nil
      case' q120=>refine' pe_one ?q122
      case' q122=>refine' pe_callC (C__law_goes T) (hr.mono (by decide)) rfl ?q123
      case q123=>exact pa_cons (pv 5) pa_nil
     case' q115=>refine' pss_one ?q124
     case q124=>exact ps_ret pe_bl
    case' q113=>refine' pss_one ?q125
    case' q125=>refine' ps_if ?q126 ?q127 pss_nil
    case q126=>
     refine' PW.pt ?q128
     case' q128=>refine' pw_and ?q129 ?q130
     case q129=>exact pt_cmpR (op_eqK (K:=K) (by rfl) (by exact hr.units)) (pv 2) pe_int (nomark _)
     case' q130=>refine' pw_and1 ?q131
     case' q131=>refine' pt_cmpR (op_neK (K:=K) (by rfl) (by exact hr.units)) ?q132 ?q133 (nomark _)
     case q132=>
      refine' pe_callC (C__law_goes_by_two T) (hr.mono (by decide)) rfl ?q134
      case q134=>exact pa_cons (pv 6) pa_nil
     case' q133=>refine' pe_and ?q135 ?q136
     case q135=>
      refine' pe_callC (C__law_goes_by_two T) (hr.mono (by decide)) rfl ?q137
      case q137=>exact pa_cons (pv 4) pa_nil
     case' q136=>refine' pe_one ?q138
     case' q138=>refine' pe_callC (C__law_goes_by_two T) (hr.mono (by decide)) rfl ?q139
     case q139=>exact pa_cons (pv 5) pa_nil
    case' q127=>refine' pss_one ?q140
    case q140=>exact ps_ret pe_bl
   case' q29=>refine' pss_one ?q141
   case q141=>exact ps_ret pe_bl
  refine ⟨_,rfl,a,ns,rfl,hS,by omega,fun iA ps far H1 s1 f1 h1 hf1 hf2 hperm=>?_⟩
  have ti:TrAt H1 iA (ps.map (Ins.wag ns far)):=⟨h1,Ins.train_nodup ns hf1 hperm,by rw [List.length_map,hperm.length_eq,List.length_range];omega⟩
  refine ⟨_,rfl,1,rfl,_,rfl,rfl,a,_,rfl,s1.seq hS,fun q hq=>?_⟩
  rw [revV_all,<- List.map_reverse]
  have s2:=Same.upd (o:=.lst (ns.reverse.map V.int)) hq
  refine ⟨q,ns.reverse,rfl,SqL.of upd_same,by rw [List.length_reverse];omega,fun jA ps2 far2 H2 s3 f2 h2 hg1 hg2 hperm2=>?_⟩
  have tj:TrAt H2 jA (ps2.map (Ins.wag ns.reverse far2)):=⟨h2,Ins.train_nodup ns.reverse hg1 hperm2,by rw [List.length_map,hperm2.length_eq,List.length_range,List.length_reverse];omega⟩
  have s12:=(s1.trans s2).trans s3
  refine ⟨_,rfl,a,ns,true,1,rfl,s12.seq hS,by omega,by decide,by decide,fun mA Tm ms H3 s4 f3 h3 hTp hB=>?_⟩
  have hml:Tm.length=ns.length:=by rw [hTp.length_eq,Yd.R_len]
  have hmn:Tm.Nodup:=hTp.nodup_iff.mpr (Yd.R_nodup _)
  have tm:TrAt H3 mA Tm:=⟨h3,hmn,by omega⟩
  refine ⟨Nat.zero_le _,fun eA heA=>?_⟩
  have s5:=Same.upd (o:=.lst ([]:List V)) heA
  have te:TrAt (upd H3 eA (.lst [])) eA []:=⟨upd_same,List.nodup_nil,by decide⟩
  refine ⟨(by show 4 <= sizeLine;decide),fun sA hsA=>?_⟩
  have s6:=Same.upd (o:=.lst [.ref iA,.ref jA,.ref mA,.ref eA]) hsA
  have hsA1:upd (upd H3 eA (.lst [])) sA (.lst [.ref iA,.ref jA,.ref mA,.ref eA]) sA=some (.lst [.ref iA,.ref jA,.ref mA,.ref eA]):=upd_same
  have s26:=(s2.trans s3).trans (s4.trans (s5.trans s6))
  have ti6:=ti.same s26
  have tj6:=tj.same (s4.trans (s5.trans s6))
  have tm6:=tm.same (s5.trans s6)
  have te6:=te.same s6
  have sH6:=s1.trans s26
  have hsn:H sA=none:=((s1.trans ((s2.trans s3).trans (s4.trans s5)))).free hsA
  have nI:iA≠sA:=ne_of_none (ti.same ((s2.trans s3).trans (s4.trans s5))).1 hsA
  have nJ:jA≠sA:=ne_of_none (tj.same (s4.trans s5)).1 hsA
  have nM:mA≠sA:=ne_of_none (tm.same s5).1 hsA
  have nE:eA≠sA:=ne_of_none te.1 hsA
  generalize upd (upd H3 eA (.lst [])) sA (.lst [.ref iA,.ref jA,.ref mA,.ref eA])=H6 at hsA1 ti6 tj6 tm6 te6 sH6
  have hTab6:=hTab.same sH6
  have hS6:=sH6.seq hS
  refine ⟨_,rfl,.inl ⟨rfl,_,SqL.of hsA1⟩,_,rfl,.inl ⟨sA,_,2,.ref mA,rfl,rfl,SqL.of hsA1,rfl,?_⟩⟩
  refine ⟨_,rfl,mA,a,Tm,ns,rfl,tm6.1,hS6,by omega,fun pA Tp H7 s7 f7 h7 hpp=>?_⟩
  have tp:TrAt H7 pA Tp:=⟨h7,hpp.nodup_iff.mpr hmn,by rw [hpp.length_eq];omega⟩
  refine ⟨sA,_,_,rfl,rfl,s7 _ _ hsA1,small1000' (by show 4 <= 100000;decide),?_⟩
  have nP:pA≠sA:=fun z=>by rw [z] at f7;rw [f7] at hsA1;cases hsA1
  have sH8:Same H (upd H7 sA (.lst ([.ref iA,.ref jA,.ref mA,.ref eA]++[.ref pA]))):=Same.updN (sH6.trans s7) hsn
  have hs8:upd H7 sA (.lst ([.ref iA,.ref jA,.ref mA,.ref eA]++[.ref pA])) sA=some (.lst ([.ref iA,.ref jA,.ref mA,.ref eA]++[.ref pA])):=upd_same
  have keep:∀ {c:Addr} {U:List Int},c≠sA->TrAt H7 c U->TrAt (upd H7 sA (.lst ([.ref iA,.ref jA,.ref mA,.ref eA]++[.ref pA]))) c U:=fun hc h=>⟨by rw [upd_ne hc];exact h.1,h.2⟩
  have all5:∀ k:Nat,k < 5->∃ (c:Addr) (U:List Int),([.ref iA,.ref jA,.ref mA,.ref eA]++[.ref pA]:List V)[k]?=some (.ref c) /\ TrAt (upd H7 sA (.lst ([.ref iA,.ref jA,.ref mA,.ref eA]++[.ref pA]))) c U:=fun k hk=>by
   match k,hk with
   | 0,_=>exact ⟨iA,_,rfl,keep nI (ti6.same s7)⟩
   | 1,_=>exact ⟨jA,_,rfl,keep nJ (tj6.same s7)⟩
   | 2,_=>exact ⟨mA,_,rfl,keep nM (tm6.same s7)⟩
   | 3,_=>exact ⟨eA,_,rfl,keep nE (te6.same s7)⟩
   | 4,_=>exact ⟨pA,_,rfl,keep nP tp⟩
  generalize hxs:([.ref iA,.ref jA,.ref mA,.ref eA]++[.ref pA]:List V)=xs at hs8 all5 sH8 ⊢
  generalize upd H7 sA (.lst xs)=H8 at hs8 all5 sH8 ⊢
  refine ⟨(by show 2 <= sizeLine;decide),fun t1 ht1=>⟨(by show 2 <= sizeLine;decide),fun t2 ht2=>⟨(by show 2 <= sizeLine;decide),fun t3 ht3=>⟨(by show 3 <= sizeLine;decide),fun oA hoA=>?_⟩⟩⟩⟩
  have sa:=((Same.upd (o:=.tup [.int 0,.int 1]) ht1).trans (Same.upd (o:=.tup [.int 2,.int 4]) ht2)).trans ((Same.upd (o:=.tup [.int 3,.int 2]) ht3).trans (Same.upd (o:=.lst [.ref t1,.ref t2,.ref t3]) hoA))
  have ho:upd (upd (upd (upd H8 t1 (.tup [.int 0,.int 1])) t2 (.tup [.int 2,.int 4])) t3 (.tup [.int 3,.int 2])) oA (.lst [.ref t1,.ref t2,.ref t3]) oA=some (.lst [.ref t1,.ref t2,.ref t3]):=upd_same
  have tups:∀ x∈[V.ref t1,V.ref t2,V.ref t3],∃ (t:Addr) (f s:Nat),x=.ref t /\ f < 5 /\ s < 5 /\ upd (upd (upd (upd H8 t1 (.tup [.int 0,.int 1])) t2 (.tup [.int 2,.int 4])) t3 (.tup [.int 3,.int 2])) oA (.lst [.ref t1,.ref t2,.ref t3]) t=some (.tup [.int (f:Int),.int (s:Int)]):=fun x hx=>by
   simp only [List.mem_cons,List.not_mem_nil,or_false] at hx
   rcases hx with rfl | rfl | rfl
   ·exact ⟨t1,0,1,rfl,by decide,by decide,upd_get (upd_get (upd_get upd_same ht2) ht3) hoA⟩
   ·exact ⟨t2,2,4,rfl,by decide,by decide,upd_get (upd_get upd_same ht3) hoA⟩
   ·exact ⟨t3,3,2,rfl,by decide,by decide,upd_get upd_same hoA⟩
  generalize upd (upd (upd (upd H8 t1 (.tup [.int 0,.int 1])) t2 (.tup [.int 2,.int 4])) t3 (.tup [.int 3,.int 2])) oA (.lst [.ref t1,.ref t2,.ref t3])=H9 at sa ho tups ⊢
  have hs9:=sa _ _ hs8
  have hTab9:=hTab.same (sH8.trans sa)
  refine ⟨oA,rfl,⟨_,SqL.of ho⟩,?_⟩
  refine for_list (K:=K) (a:=oA) (xs:=[.ref t1,.ref t2,.ref t3]) (fun i σ H'=>(∃ v2 v3 v4 v5 v6 v7 v8 v9,σ=[some (.ref a),some (.ref sA),v2,v3,v4,v5,v6,v7,v8,v9]) /\ Same H9 H')
   ⟨⟨_,_,_,_,_,_,_,_,rfl⟩,Same.refl _⟩ (fun i σ H' _ h=>SqL.of (h.2 _ _ ho)) ?_ ?_
  ·rintro i x σ H10 hx ⟨⟨v2,v3,v4,v5,v6,v7,v8,v9,rfl⟩,s10⟩
   obtain ⟨t,f,s,rfl,hf,hs,ht⟩:=tups x (List.mem_of_getElem? hx)
   obtain ⟨cA,A,eA',tA⟩:=all5 f hf
   obtain ⟨cB,B,eB',tB⟩:=all5 s hs
   have tA:=(tA.same sa).same s10
   have tB:=(tB.same sa).same s10
   have hs10:=s10 _ _ hs9
   refine ⟨t,_,rfl,SqT.of (s10 _ _ ht),rfl,_,_,rfl,_,_,rfl,rfl,?_⟩
   refine ⟨_,rfl,_,rfl,.inl ⟨sA,_,(f:Int),.ref cA,rfl,rfl,SqL.of hs10,atI_nat eA',?_⟩⟩
   refine ⟨_,rfl,_,rfl,.inl ⟨sA,_,(s:Int),.ref cB,rfl,rfl,SqL.of hs10,atI_nat eB',_,_,rfl,?_⟩⟩
   have lA:=tA.2.2
   have lB:=tB.2.2
   refine ⟨_,rfl,cA,A,0,rfl,tA.1,by omega,fun n1 H11 s11 f11 h11=>?_⟩
   have tA1:=tA.same s11
   have tB1:=tB.same s11
   refine ⟨_,rfl,_,rfl,_,_,rfl,.inl ⟨_,SqL.of tA1.1,rfl⟩,cB,B,_,rfl,tB1.1,by omega,fun n2 H12 s12 f12 h12=>?_⟩
   refine .inr (.inl ⟨n1,n2,_,_,rfl,rfl,s12 _ _ h11,h12,?_,fun dA hdA=>?_⟩)
   ·rw [List.length_map,List.length_map,List.length_map,List.length_map]
    exact Nat.le_of_lt (small1000' (by omega))
   have edue:(A.map fun x=>(cnt A x:Int)+0).map V.int++(B.map fun x=>(cnt B x:Int)+((A.map V.int).length:Int)).map V.int=(dueL A B).map V.int:=by
    unfold dueL
    rw [List.map_append,List.length_map]
   rw [edue]
   have sd:=(s11.trans s12).trans (Same.upd (o:=.lst ((dueL A B).map V.int)) hdA)
   have hdue:upd H12 dA (.lst ((dueL A B).map V.int)) dA=some (.lst ((dueL A B).map V.int)):=upd_same
   generalize upd H12 dA (.lst ((dueL A B).map V.int))=H13 at sd hdue ⊢
   have tA3:=tA.same sd
   have tB3:=tB.same sd
   refine ⟨_,rfl,cA,_,rfl,.inl (SqL.of tA3.1),fun l1 hl1=>?_⟩
   have sl1:=Same.upd (o:=.lst (A.map V.int)) hl1
   refine ⟨_,rfl,cB,_,rfl,.inl (SqL.of (sl1 _ _ tB3.1)),fun l2 hl2=>?_⟩
   have sl2:=Same.upd (o:=.lst (B.map V.int)) hl2
   refine ⟨(by show 2 <= sizeLine;decide),fun gA hgA=>?_⟩
   have sl3:=Same.upd (o:=.lst [.ref l1,.ref l2]) hgA
   have sh:=(sl1.trans sl2).trans sl3
   have hg1:upd (upd (upd H13 l1 (.lst (A.map V.int))) l2 (.lst (B.map V.int))) gA (.lst [.ref l1,.ref l2]) gA=some (.lst [.ref l1,.ref l2]):=upd_same
   have hh1:upd (upd (upd H13 l1 (.lst (A.map V.int))) l2 (.lst (B.map V.int))) gA (.lst [.ref l1,.ref l2]) l1=some (.lst (A.map V.int)):=upd_get (upd_get upd_same hl2) hgA
   have hh2:upd (upd (upd H13 l1 (.lst (A.map V.int))) l2 (.lst (B.map V.int))) gA (.lst [.ref l1,.ref l2]) l2=some (.lst (B.map V.int)):=upd_get upd_same hgA
   generalize upd (upd (upd H13 l1 (.lst (A.map V.int))) l2 (.lst (B.map V.int))) gA (.lst [.ref l1,.ref l2])=H14 at sh hg1 hh1 hh2 ⊢
   have tA4:=tA3.same sh
   have tB4:=tB3.same sh
   have hd4:=sh _ _ hdue
   have hT4:=hTab9.same (s10.trans (sd.trans sh))
   have dn:=due_nodup (A:=A) (B:=B) tA.2.1 tB.2.1
   have dl:(dueL A B).length < 200:=by unfold dueL;rw [List.length_append,List.length_map,List.length_map];omega
   refine ⟨2,rfl,by decide,by decide,?_⟩
   refine for_range (lo:=0) (n:=2) (fun i σ H'=>(∃ v8 v9,σ=[some (.ref a),some (.ref sA),some (.int (f:Int)),some (.int (s:Int)),some (.ref cA),some (.ref cB),some (.ref dA),some (.ref gA),v8,v9]) /\ Same H14 H')
    ⟨⟨_,_,rfl⟩,Same.refl _⟩ ?_ ?_
   ·rintro i2 σ H15 hi2 ⟨⟨v8',v9',rfl⟩,s15⟩
    refine ⟨_,rfl,.inl ⟨gA,_,0,.ref l1,rfl,rfl,SqL.of (s15 _ _ hg1),rfl,?_⟩⟩
    refine ⟨_,rfl,.inl ⟨gA,_,1,.ref l2,rfl,rfl,SqL.of (s15 _ _ hg1),rfl,?_⟩⟩
    refine ⟨l1,l2,A,B,rfl,s15 _ _ hh1,s15 _ _ hh2,tA.2.1,tB.2.1,by omega,by omega,hT4.same s15,fun fA H16 o1 o2 s16 f16 hR1 hR2 h16=>?_⟩
    rw [behind_due hR1 hR2 tA.2.1 tB.2.1] at h16
    have s156:=s15.trans s16
    refine ⟨_,rfl,_,_,_,_,_,rfl,rfl,ty_inj,.lst h16,kit_same,_,rfl,iteF ?_⟩
    refine ⟨_,rfl,_,rfl,.inr ⟨dI (dueL A B),dI (dueL A B),.ints (SqL.of h16),.ints (SqL.of (s156 _ _ hd4)),ok_ints _ _,ok_ints _ _,_,rfl,iteNSc rfl ?_⟩⟩
    refine ⟨_,rfl,_,rfl,_,rfl,(by show 2 <= sizeLine;decide),fun u hu=>?_⟩
    have su:=Same.upd (o:=.lst [.ref cA,.ref cB]) hu
    have s17:=s156.trans su
    refine .inr ⟨.list [dI A,dI B],.list [dI A,dI B],.lst (SqL.of (s17 _ _ hg1)) (.cons (.ints (SqL.of (s17 _ _ hh1))) (.cons (.ints (SqL.of (s17 _ _ hh2))) .nil)),
     .lst (SqL.of upd_same) (.cons (.ints (SqL.of (s17 _ _ tA4.1))) (.cons (.ints (SqL.of (s17 _ _ tB4.1))) .nil)),?_,?_,_,rfl,iteNSc rfl ?_⟩
    ·exact ok_list fun d hd=>by
      simp only [List.mem_cons,List.not_mem_nil,or_false] at hd
      rcases hd with rfl | rfl<;>exact ok_ints _ _
    ·exact ok_list fun d hd=>by
      simp only [List.mem_cons,List.not_mem_nil,or_false] at hd
      rcases hd with rfl | rfl<;>exact ok_ints _ _
    have h17:=su _ _ h16
    refine ⟨_,rfl,.inl ⟨rfl,_,SqL.of h17⟩,1,rfl,fA,_,_,rfl,rfl,h17,by rw [List.length_map];exact small1000' (by omega),?_⟩
    exact ⟨⟨_,_,rfl⟩,Same.updN s17 (s15.free f16)⟩
   ·rintro σ H15 ⟨⟨v8',v9',rfl⟩,s15⟩
    have tab5:=hT4.same s15
    have tA5:=tA4.same s15
    have tB5:=tB4.same s15
    have hd5:=s15 _ _ hd4
    have back:∀ {H':Hp},Same H15 H'->Same H9 H':=fun z=>s10.trans (sd.trans (sh.trans (s15.trans z)))
    refine ⟨_,rfl,dA,dueL A B,rfl,hd5,dn,dl,tab5,fun bT H20 s20 gT=>?_⟩
    refine ⟨_,rfl,cA,A,rfl,s20 _ _ tA5.1,tA.2.1,by omega,tab5.same s20,fun bA H21 s21 gA=>⟨_,rfl,?_⟩⟩
    have s201:=s20.trans s21
    cases bA with
    | true=>
     refine iteT ⟨_,rfl,cB,B,rfl,s201 _ _ tB5.1,tB.2.1,by omega,tab5.same s201,fun bB H22 s22 gB=>.inl ⟨rfl,_,rfl,?_⟩⟩
     refine iteNSc (by rw [both_one gT gA gB];cases bB<;>rfl) ?_
     have s202:=s201.trans s22
     refine ⟨_,rfl,.inl ⟨rfl,_,rfl,?_⟩⟩
     refine iteDB (fun he=>?_) (fun he=>⟨⟨_,_,_,_,_,_,_,_,rfl⟩,back s202⟩)
     refine ⟨_,rfl,dA,dueL A B,rfl,s202 _ _ hd5,dn,dl,tab5.same s202,fun cT H30 s30 qT=>?_⟩
     have sy:=(s202).trans s30
     refine ⟨_,rfl,cA,A,rfl,sy _ _ tA5.1,tA.2.1,by omega,tab5.same sy,fun c1 H31 s31 q1=>⟨_,rfl,?_⟩⟩
     have sz:=sy.trans s31
     cases c1 with
     | true=>
      refine iteT ⟨_,rfl,cB,B,rfl,sz _ _ tB5.1,tB.2.1,by omega,tab5.same sz,fun c2 H32 s32 q2=>.inl ⟨rfl,_,rfl,?_⟩⟩
      refine iteNSc (by rw [both_two qT q1 q2];cases c2<;>rfl) ?_
      exact ⟨⟨_,_,_,_,_,_,_,_,rfl⟩,back (sz.trans s32)⟩
     | false=>
      refine iteF (.inl ⟨rfl,_,rfl,?_⟩)
      refine iteNSc (by rw [not_two qT q1 rfl]) ?_
      exact ⟨⟨_,_,_,_,_,_,_,_,rfl⟩,back sz⟩
    | false=>
     refine iteF (.inl ⟨rfl,_,rfl,?_⟩)
     refine iteNSc (by rw [not_one gT gA rfl]) ?_
     refine ⟨_,rfl,.inl ⟨rfl,_,rfl,?_⟩⟩
     refine iteDB (fun he=>?_) (fun he=>⟨⟨_,_,_,_,_,_,_,_,rfl⟩,back s201⟩)
     refine ⟨_,rfl,dA,dueL A B,rfl,s201 _ _ hd5,dn,dl,tab5.same s201,fun cT H30 s30 qT=>?_⟩
     have sy:=(s201).trans s30
     refine ⟨_,rfl,cA,A,rfl,sy _ _ tA5.1,tA.2.1,by omega,tab5.same sy,fun c1 H31 s31 q1=>⟨_,rfl,?_⟩⟩
     have sz:=sy.trans s31
     cases c1 with
     | true=>
      refine iteT ⟨_,rfl,cB,B,rfl,sz _ _ tB5.1,tB.2.1,by omega,tab5.same sz,fun c2 H32 s32 q2=>.inl ⟨rfl,_,rfl,?_⟩⟩
      refine iteNSc (by rw [both_two qT q1 q2];cases c2<;>rfl) ?_
      exact ⟨⟨_,_,_,_,_,_,_,_,rfl⟩,back (sz.trans s32)⟩
     | false=>
      refine iteF (.inl ⟨rfl,_,rfl,?_⟩)
      refine iteNSc (by rw [not_two qT q1 rfl]) ?_
      exact ⟨⟨_,_,_,_,_,_,_,_,rfl⟩,back sz⟩
  ·rintro σ H10 ⟨_,s10⟩
   exact kQ H10
end
end My
theorem PySem.Challenge.cw_sidings_k07_behind_holds : PySem.Challenge.rw_sidings_k07_behind.Holds :=
 My.early My.ok_law
#print axioms PySem.Challenge.cw_sidings_k07_behind_holds
