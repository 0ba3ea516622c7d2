import PyProof.Rows.All
import Wide.All
import OpenK.AllK
import Wide.FinOn
import Lean
import PyProof.EqAt
import PyProof.EqKinds
import PyProof.TupleCall
import PyProof.StationsW
import PyProof.ExcInit
import PyProof.ExcClass2
import PyProof.NsDelKeeps
import PyProof.RulesAs
import PyProof.ListRange
import PyProof.Rows.SortShell
import KE.KSortKey
import KE.KLam
import KE.KNestM
import KE.KRevIter
import PyProof.Rows.Range3
import PyProof.Rows.CallKwBuiltin
import PyProof.WalkInts
import PyProof.Rows.SortRuns
import PyProof.Rows.SetFrom
import PySem.Challenge.RW_sidings_k03_whole_two_blind
open Option (map_eq_some_iff map_some)
open PySem.Heap (lt_size get?_none_of_le get?_push_of_some get?_push_size get?_update_other)
open Nat (lt_irrefl ne_of_gt zero_le lt_succ_self le_succ succ_le_succ min_eq_left min_eq_right lt_or_ge sub_self min_self lt_trans)
open List (mem_range mem_cons_self mem_cons_of_mem mem_cons mem_append mem_append_left getElem?_set_self getElem?_set_ne set_comm mem_append_right size_toArray length_cons map_cons length_map append_nil nodup_cons length_take getElem?_append_right getElem?_replicate getElem?_append_left getElem?_map mem_of_getElem? length_append length_replicate map_nil length_drop length_set any_cons reverse_cons replicate_succ flatten_cons append_assoc length_dropLast nil_append forIn_nil forIn_cons not_mem_nil getD_eq_getElem?_getD mem_iff_getElem take_of_length_le drop_of_length_le drop_zero length_zip take_add_one pairwise_cons length_nil range_succ mem_map map_append map_map length_reverse take_length map_replicate pairwise_append mem_singleton map_set map_dropLast length_range getElem?_range pairwise_map ext_getElem? replicate_succ' getElem?_eq_none_iff idxOf_lt_length_iff getElem_of_mem getLast?_eq_getElem? getLast?_append getElem?_append find?_cons mem_nil_iff dropLast_concat map_drop)
open Array (length_toList getElem?_toList toList_push size_extract toList_append)
open Int (toNat_natCast emod_nonneg emod_lt_of_pos)
open PySem.W (instObj lookIn plainGet isFn plainOver makesIn emptyDict keepIn kitOne kia_one callWith_K methodCall_KW fnOf codeIn kqdP kqdOk nsIn kla_obj envX tabIn mg_of mg_none_of)
set_option Elab.async false
set_option linter.all false
set_option maxRecDepth 100000
set_option maxHeartbeats 4000000
local macro_rules | `(()) => `((by omega))
local macro_rules (kind := «term{_}») | `({$xs,*}) => `(⟨$xs,*⟩)
local macro_rules | `(tactic| omega) => `(tactic| first | assumption | lia)
namespace L2
open PySem PySem.W
def iN(st:SharedT->Thread->Option (SharedT×Thread))(n₀:Nat)(ann:Option Value):Nat->SharedT->Thread->Option SharedT
 | 0,_,_=>none
 | n+1,s,t=>match through t with
  | true=>some s
  | false=>match stepOk n₀ ann t with
   | false=>none
   | true=>match st s t with
    | some (s',t')=>iN st n₀ ann n s' t'
    | none=>none
def mm{tb:String->Option Builtin}{p:Program}{w:World}{n₀:Nat}{ann:Option Value}:∀(n:Nat) (s r:SharedT) (t:Thread),iN (stepT (denote tb) p w) n₀ ann n s t=some r->topRun tb p w n₀ ann n s.abs t=some r.abs
 | 0,_,_,_,h=>by cases h
 | n+1,s,r,t,h=>by
  unfold iN at h;unfold topRun;cases ht:through t with
  | true=>rw[ht] at h;cases h;rfl
  | false=>
   rw[ht] at h;cases hk:stepOk n₀ ann t with
   | false=>rw[hk] at h;cases h
   | true=>
    rw[hk] at h;cases hs:stepT (denote tb) p w s t with
    | none=>rw[hs] at h;cases h
    | some x=>
     obtain ⟨s',t'⟩:=x;rw[hs] at h;rw[stepT_spec hs];exact mm n s' r t' h
def sQ{p q:Program}{loose:List Str}{Xt:Shared->Bool}{α:Type}{Yf:Shared->α}{Ya:World->α}{N:Nat}{g0:Bool}{H₀:Params->Heap}{T₀:Params->BT}{life:Life}{d₀:Drawn}{k₀ m₀:Nat}{ann:Option Value}
  (open_:∀w:World,(fencedOpening treeTable p w N).map (λs=>(s.heap,s.gens,s.drawn,s.toks))=some (H₀ w.params,Array.mk [],d₀,k₀))
  (tree:∀P,absHeap (T₀ P) m₀ life=H₀ P)
  (size:∀w:World,((H₀ w.params).isNs mainGlobals&&(Array.mk []:Array GenState).size==0,(H₀ w.params).objs.size,(H₀ w.params).nsMap mainGlobals "__annotations__")=(true,m₀,ann))
  (obs:∀(w:World) (os:OsState),(iN (stepT (denote treeTable) p w) m₀ ann N ⟨T₀ w.params,m₀,life,Array.mk [],d₀,k₀,os⟩ (topStub p)).map (λr=>((staticsOk (importedModules p.main.body) (H₀ w.params) r.abs.heap&&namesBound p r.abs.heap&&gensDone r.abs&&laidKept (H₀ w.params) r.abs.heap),
    openSeen q loose (importedModules p.main.body) Xt g0 r.abs,Yf r.abs))=some (true,openGood q loose,Ya w)):LeftO p q loose Xt Yf Ya N g0:=λw=>by
 obtain ⟨⟨h,gs,d,k,os⟩,e,e'⟩:=map_eq_some_iff.mp (open_ w);obtain ⟨rfl,rfl,rfl,rfl⟩:h=H₀ w.params/\gs=Array.mk []/\d=d₀/\k=k₀:=by simpa using e'
 obtain ⟨z1,z2,z3⟩:_/\_/\_:=by simpa only[Prod.mk.injEq] using size w
 obtain ⟨r,er,lk⟩:=map_eq_some_iff.mp (obs w os);obtain ⟨l1,l2,l3⟩:_/\_/\_:=by simpa only[Prod.mk.injEq] using lk
 have rr:=mm _ _ _ _ er;unfold SharedT.abs at rr;dsimp only at rr;rw[tree] at rr;have t:topFrom treeTable p w N ⟨H₀ w.params,Array.mk [],d,k,os⟩=some r.abs:=by
  unfold topFrom;dsimp only;rw[z1,z2,z3];show Option.bind _ _=_;rw[rr];show (match staticsOk (importedModules p.main.body) (H₀ w.params) r.abs.heap&&namesBound p r.abs.heap&&gensDone r.abs&&laidKept (H₀ w.params) r.abs.heap with | true=>_ | false=>_)=_;rw[l1];rfl
 unfold openEnds;rw[e];show (topFrom treeTable p w N _).map _=_;rw[t];exact congrArg some (Prod.ext l2 l3)
def pS{p q:Program}{loose:List Str}{Xt:Shared->Bool}{α:Type}{Yf:Shared->α}{Ya:World->α}{N:Nat}{g0:Bool}{H₀:Params->Heap}{T₀:Params->BT}{life:Life}{d₀:Drawn}{k₀ m₀:Nat}{ann:Option Value}
  (open_:∀w:World,(fencedOpening treeTable p w N).map (λs=>(s.heap,s.gens,s.drawn,s.toks))=some (H₀ w.params,Array.mk [],d₀,k₀))
  (tree:∀P,absHeap (T₀ P) m₀ life=H₀ P)
  (size:∀w:World,((H₀ w.params).isNs mainGlobals&&(Array.mk []:Array GenState).size==0,(H₀ w.params).objs.size,(H₀ w.params).nsMap mainGlobals "__annotations__")=(true,m₀,ann))
  (oa:∀(w:World) (os:OsState),(iN (stepT (denote treeTable) p w) m₀ ann N ⟨T₀ w.params,m₀,life,Array.mk [],d₀,k₀,os⟩ (topStub p)).map (λr=>(staticsOk (importedModules p.main.body) (H₀ w.params) r.abs.heap&&namesBound p r.abs.heap&&gensDone r.abs&&laidKept (H₀ w.params) r.abs.heap))=some true)
  (ob:∀(w:World) (os:OsState),(iN (stepT (denote treeTable) p w) m₀ ann N ⟨T₀ w.params,m₀,life,Array.mk [],d₀,k₀,os⟩ (topStub p)).map (λr=>openSeen q loose (importedModules p.main.body) Xt g0 r.abs)=some (openGood q loose))
  (obs:∀(w:World) (os:OsState),(iN (stepT (denote treeTable) p w) m₀ ann N ⟨T₀ w.params,m₀,life,Array.mk [],d₀,k₀,os⟩ (topStub p)).map (λr=>Yf r.abs)=some (Ya w)):LeftO p q loose Xt Yf Ya N g0:=by
 refine sQ open_ tree size λw os=>?_;obtain ⟨r,e,h1⟩:=map_eq_some_iff.mp (oa w os);have h2:=ob w os;have h3:=obs w os;rw[e] at h2 h3 ⊢;rw[map_some] at h2 h3 ⊢;rw[h1,Option.some.inj h2,Option.some.inj h3]
def pT(l:List Obj):BT:=((l.zip (List.range l.length)).foldl (λt x=>t.ins x.2 x.1) .nil)
end L2
namespace My
open PySem PySem.W
def pwv:Program:=view PySem.Challenge.pw_sidings_k03_whole_two_blind [0,2,3,4,5,7,8,9,10,11,12,13,14,16,17,18,20,21,22,23,24,25,26,27,28,29,30,31,32,34,35,36,38,39,40,42,44,45,46,47,48,49,50,51,52,53,54]
open PyProof.Rows
set_option maxRecDepth 100000 in
set_option maxHeartbeats 0 in
def zS(w:World)(os:OsState):(L2.iN (stepT (denote treeTable) PySem.Challenge.pw_sidings_k03_whole_two_blind w) 11 (some (.ref 6)) 20000 ⟨L2.pT (boot_heap w.params).objs.toList,11,(boot_heap (aWorld 1).params).life,Array.mk [],boot_drawn,boot_toks,os⟩ (topStub PySem.Challenge.pw_sidings_k03_whole_two_blind)).map (λr=>(staticsOk (importedModules PySem.Challenge.pw_sidings_k03_whole_two_blind.main.body) (boot_heap w.params) r.abs.heap&&namesBound PySem.Challenge.pw_sidings_k03_whole_two_blind r.abs.heap&&gensDone r.abs&&laidKept (boot_heap w.params) r.abs.heap))=some true:=by
 rewrite [PySem.W.Fast.te10156331382660048174,PySem.W.Fast.te11892475500146522536,PySem.W.Fast.te14364793385576792824]
 kernel_rfl
set_option maxRecDepth 100000 in
set_option maxHeartbeats 0 in
def zT(w:World)(os:OsState):(L2.iN (stepT (denote treeTable) PySem.Challenge.pw_sidings_k03_whole_two_blind w) 11 (some (.ref 6)) 20000 ⟨L2.pT (boot_heap w.params).objs.toList,11,(boot_heap (aWorld 1).params).life,Array.mk [],boot_drawn,boot_toks,os⟩ (topStub PySem.Challenge.pw_sidings_k03_whole_two_blind)).map (λr=>openSeen My.pwv [] (importedModules PySem.Challenge.pw_sidings_k03_whole_two_blind.main.body) (λs=>xlAt My.pwv [] s&&recOk PySem.Challenge.rw_sidings_k03_whole_two_blind.row.records s) true r.abs)=some (openGood My.pwv []):=by
 rewrite [PySem.W.Fast.te10156331382660048174,PySem.W.Fast.te11892475500146522536,PySem.W.Fast.te14364793385576792824,PySem.W.Fast.te4187177175401517315]
 kernel_rfl
end My
namespace L2
open PySem PySem.Spec PyProof.Rows
abbrev Key:=Sum Int Str
def mn:Key->Value->Bool
 | .inl k,v=>Value.isInt k v
 | .inr x,v=>Value.isStrOf x v
def CC(w:World):Key->Int
 | .inl k=>hashInt k
 | .inr x=>hashStr w x
def aU:∀{k:Key} {v:Value},mn k v=true->(∃i t,k=Sum.inl i/\v=Value.int i t)\/(∃x t,k=Sum.inr x/\v=Value.str x t)
 | .inl i,v,h=>by
  obtain ⟨t,e⟩:=Value.isInt_shape (k:=i) (v:=v) h;exact .inl ⟨i,t,rfl,e⟩
 | .inr x,v,h=>by
  obtain ⟨t,e⟩:=Value.isStrOf_shape (x:=x) (v:=v) h;exact .inr ⟨x,t,rfl,e⟩
def sU(i:Int)(t:Tok):mn (.inl i) (.int i t)=true:=by simp[mn,Value.isInt]
def sV(x:Str)(t:Tok):mn (.inr x) (.str x t)=true:=by simp[mn,Value.isStrOf]
def zU(a b:Int):decide ((Sum.inl a:Key)=Sum.inl b)=(a==b):=by
 by_cases e:a=b
 ·subst e;simp
 ·have h:¬ (Sum.inl a:Key)=Sum.inl b:=λq=>e (Sum.inl.inj q)
  rw[decide_eq_false h];exact (beq_eq_false_iff_ne.mpr e).symm
def zV(a b:Str):decide ((Sum.inr a:Key)=Sum.inr b)=decide (a=b):=by
 by_cases e:a=b
 ·subst e;simp
 ·have h:¬ (Sum.inr a:Key)=Sum.inr b:=λq=>e (Sum.inr.inj q)
  rw[decide_eq_false h,decide_eq_false e]
def zW(a:Int)(b:Str):decide ((Sum.inl a:Key)=Sum.inr b)=false:=decide_eq_false (λq=>nomatch q)
def zX(a:Str)(b:Int):decide ((Sum.inr a:Key)=Sum.inl b)=false:=decide_eq_false (λq=>nomatch q)
def bo(prog:Program)(w:World):PySem.KeyKind prog w Key where
 is:=mn
 hash:=CC w
 inj:=λv a b ha hb=>by
  rcases aU ha with ⟨i,t,rfl,rfl⟩ | ⟨x,t,rfl,rfl⟩
  ·rcases aU hb with ⟨j,u,rfl,e⟩ | ⟨y,u,rfl,e⟩
   ·injection e with e1 _;rw[e1]
   ·exact nomatch e
  ·rcases aU hb with ⟨j,u,rfl,e⟩ | ⟨y,u,rfl,e⟩
   ·exact nomatch e
   ·injection e with e1 _;rw[e1]
 byValue:=λk v h=>by
  rcases aU h with ⟨i,t,rfl,rfl⟩ | ⟨x,t,rfl,rfl⟩<;>rfl
 pyHash:=λhv h=>by
  rcases aU hv with ⟨i,t,rfl,rfl⟩ | ⟨x,t,rfl,rfl⟩
  ·exact wpAny_pyHash_int h
  ·exact wpAny_pyHash_str h
 eqBool:=λhu hv h=>by
  rcases aU hu with ⟨i,t,rfl,rfl⟩ | ⟨x,t,rfl,rfl⟩
  ·rcases aU hv with ⟨j,u,rfl,rfl⟩ | ⟨y,u,rfl,rfl⟩
   ·rw[zU] at h;exact wpAny_eqBool_int h
   ·rw[zW] at h;exact SeqAt.EqAt.int_str i t y u _ _ _ _ h
  ·rcases aU hv with ⟨j,u,rfl,rfl⟩ | ⟨y,u,rfl,rfl⟩
   ·rw[zX] at h;exact SeqAt.EqAt.str_int x t j u _ _ _ _ h
   ·rw[zV] at h;exact wpAny_eqBool_str h
 «strs»:=λk x t v h=>by
  rcases aU h with ⟨i,u,rfl,e⟩ | ⟨y,u,rfl,e⟩
  ·exact nomatch e
  ·injection e with e1 _
   subst e1;cases v<;>rfl
def oi(prog:Program)(w:World)(i:Int)(t:Tok):(bo prog w).is (.inl i) (.int i t)=true:=sU i t
def oj(prog:Program)(w:World)(x:Str)(t:Tok):(bo prog w).is (.inr x) (.str x t)=true:=sV x t
inductive V where
 | non | bl (b:Bool) | int (i:Int) | str (x:Str) | byt (b:Array UInt8) | flt (b:UInt64) | ref (a:Addr) | ty (n:String)
 deriving DecidableEq
def av:V->Value->Prop
 | .non,u=>u=Value.none
 | .bl b,u=>u=Value.bool b
 | .int i,u=>∃t,u=Value.int i t
 | .str x,u=>∃t,u=Value.str x t
 | .byt b,u=>∃t,u=Value.bytes b t
 | .flt b,u=>∃t,u=Value.float b t
 | .ref a,u=>u=Value.ref a
 | .ty n,u=>u=Value.type n
abbrev aq:List V->List Value->Prop:=Paired av
def aq.length{xs:List V}{us:List Value}(r:aq xs us):xs.length=us.length:=Paired.length r
def aq.get:∀{xs:List V} {us:List Value} {i:Nat} {x:V},aq xs us->xs[i]?=some x->∃u,us[i]?=some u/\av x u
 | _,_,_,_,.nil,e=>by simp at e
 | _,_,0,_,.cons r _,e=>by simp at e;subst e;exact {_,rfl,r}
 | _,_,i+1,x,.cons _ t,e=>by
  obtain ⟨u,h1,h2⟩:=aq.get (i:=i) (x:=x) t (by simpa using e);exact ⟨u,by simpa using h1,h2⟩
def aq.set{x:V}{u:Value}(r:av x u):∀{xs:List V} {us:List Value} (i:Nat),aq xs us->aq (xs.set i x) (us.set i u)
 | _,_,_,.nil=>.nil
 | _,_,0,.cons _ t=>.cons r t
 | _,_,i+1,.cons q t=>.cons q (aq.set r i t)
def aq.append:∀{xs ys:List V} {us ws:List Value},aq xs us->aq ys ws->aq (xs++ys) (us++ws)
 | _,_,_,_,.nil,s=>s
 | _,_,_,_,.cons r t,s=>.cons r (aq.append t s)
def aq.take:∀{xs:List V} {us:List Value} (n:Nat),aq xs us->aq (xs.take n) (us.take n)
 | _,_,0,_=>.nil
 | _,_,_+1,.nil=>.nil
 | _,_,n+1,.cons r t=>.cons r (aq.take n t)
def aq.drop:∀{xs:List V} {us:List Value} (n:Nat),aq xs us->aq (xs.drop n) (us.drop n)
 | _,_,0,r=>r
 | _,_,_+1,.nil=>.nil
 | _,_,n+1,.cons _ t=>aq.drop n t
def fS:Option V->Option Value->Prop
 | some v,some u=>av v u
 | none,none=>True
 | _,_=>False
def KV{κ:Type}:List (κ×V)->List (κ×Value)->Prop:=Paired λ(p:κ×V) (q:κ×Value)=>p.1=q.1/\av p.2 q.2
def kV:Key->V
 | .inl i=>.int i
 | .inr x=>.str x
inductive HO where
 | lst (xs:List V)
 | tup (xs:List V)
 | dK (kvs:List (Key×V)) | dT (kvs:List (List Key×V))
 | set (S:Int->Bool) (n:Nat)
 | ins (C dx:Addr) (fs:List (Str×V))
 | own (x:Addr)
 | xd (fs:List (Str×V))
 | met (f x:Addr)
 | rng (lo hi:Int)
 | frz (o:Obj) (u:HO)
 | tbl (pl:Pos) (q:Str)
 | ext (φ:Heap->Prop)
abbrev Hp:=Addr->Option HO
def upd(H:Hp)(a:Addr)(o:HO):Hp:=λb=>if b=a then some o else H b
def aa{H:Hp}{a:Addr}{o:HO}:upd H a o a=some o:=by unfold upd;rw[if_pos rfl]
def ae{H:Hp}{a b:Addr}{o:HO}(h:b≠a):upd H a o b=H b:=by unfold upd;rw[if_neg h]
def re{H:Hp}{a:Addr}{o u:HO}:upd (upd H a o) a u=upd H a u:=by
 funext b;unfold upd;split<;>rfl
def aN{H:Hp}{a b:Addr}{o u:HO}(h:H a=some o)(h':H b=some u)(d:o≠u):a≠b:=by
 intro e;subst e;rw[h] at h';exact d (Option.some.inj h')
def af{H:Hp}{a b:Addr}{o:HO}(h:H a=some o)(h':H b=none):a≠b:=by
 intro e;subst e;rw[h] at h';cases h'
section
variable (P:Program) (w:World)
def aE(H:Hp)(h:Heap)(a:Addr):HO->Prop
 | .lst xs=>xs.length<=sizeLine/\∃(its:List Value) (n:Nat),aq xs its/\h.get? a=some { cls:=.type "list",data:=.seq its.toArray n }
 | .tup xs=>xs.length<=sizeLine/\∃its:List Value,aq xs its/\IsTup h a its.toArray
 | .dK kvs=>kvs.length<=sizeLine/\(a==sysModules)=false/\∃vs,KV kvs vs/\h.DictOf (bo P w) a vs
 | .dT kvs=>kvs.length<=sizeLine/\(a==sysModules)=false/\∃xs:List (List Key×Addr×Value),
   Paired (λ(p:List Key×V) (q:List Key×Addr×Value)=>p.1=q.1/\H q.2.1=some (.tup (p.1.map kV))/\av p.2 q.2.2) kvs xs /\
   ∃o es ep,h.get? a=some o/\o.ExactDict/\o.data=.dict es ep/\es.toList=xs.map (entryOfKey (tupleKind (bo P w)))/\(xs.map (·.1)).Nodup
 | .set S n=>h.SetOf (intKind P w) a S n
 | .ins C dx fs=>H dx=some (.own a)/\fs.length<=1000/\dx≠a/\h.get? a=some (instObj C dx) /\
   ∃mA,h.Ns1 dx mA/\(∀f,fS (fs.lookup f) (mA f))/\PySem.Within mA (fs.map (·.1))
 | .own _=>∃o,h.get? a=some o
 | .xd fs=>∃mA,h.Ns1 a mA/\∀f,fS (fs.lookup f) (mA f)
 | .rng lo hi=>∃t u v,h.get? a=some { cls:=.type "range",data:=.fields #[.int lo t,.int hi u,.int 1 v] }
 | .frz o u=>h.get? a=some o/\aE H h a u
 | .tbl pl q=>∃ps,h.get? a=some (PySem.W.tabObj ps)/\TriplesOk ps.toList /\
   ∀cv,codeAmong pl ps.toList=some cv->∃c oc vs t,cv=.ref c/\H c=some (.frz oc (.own a))/\oc.data=.fields vs/\vs[1]?=some (.str q t)
 | .met f x=>h.get? a=some (PySem.W.methodObj (.ref f) (.ref x))
 | .ext φ=>φ h/\(∃o,h.get? a=some o)/\∀h1 h2:Heap,φ h1->(∀o,h1.get? a=some o->h2.get? a=some o)->φ h2
def HOk(H:Hp)(h:Heap):Prop:=∀a o,H a=some o->aE P w H h a o
end
section
variable {P:Program} {w:World} {H H':Hp} {h h':Heap} {a:Addr} {o:HO}
def aE.lt(x:aE P w H h a o):a<h.objs.size:=by
 cases o with
 | lst xs=>obtain ⟨_,_,_,_,e⟩:=x;exact lt_size e
 | tup xs=>obtain ⟨_,_,_,p⟩:=x;exact p.lt
 | dK kvs=>obtain ⟨_,_,_,_,o,_,_,e,_⟩:=x;exact lt_size e
 | dT kvs=>obtain ⟨_,_,_,_,o,_,_,e,_⟩:=x;exact lt_size e
 | set S n=>obtain ⟨o,_,_,_,e,_⟩:=x;exact lt_size e
 | ins C dx fs=>obtain ⟨_,_,_,e,_⟩:=x;exact lt_size e
 | own y=>obtain ⟨_,e⟩:=x;exact lt_size e
 | xd fs=>obtain ⟨_,⟨_,_,_,e,_⟩,_⟩:=x;exact lt_size e
 | rng lo hi=>obtain ⟨_,_,_,e⟩:=x;exact lt_size e
 | frz ob u=>obtain ⟨e,_⟩:=x;exact lt_size e
 | tbl pl q=>obtain ⟨_,e,_⟩:=x;exact lt_size e
 | met f y=>exact lt_size (show h.get? a=some _ from x)
 | ext φ=>obtain ⟨_,⟨_,e⟩,_⟩:=x;exact lt_size e
def Paired.mapP{α β:Type}{F G:α->β->Prop}:∀{l₁:List α} {l₂:List β},Paired F l₁ l₂->(∀a b,F a b->G a b)->Paired G l₁ l₂
 | _,_,.nil,_=>.nil
 | _,_,.cons r t,f=>.cons (f _ _ r) (Paired.mapP t f)
def aE.stay(x:aE P w H h a o)(k:∀b u,(b=a\/H b=some (.own a))->h.get? b=some u->h'.get? b=some u)
  (ho:∀b,H b=some (.own a)->H' b=some (.own a)) (ht:∀b xs,H b=some (.tup xs)->H' b=some (.tup xs)) (hf:∀b ob u,H b=some (.frz ob u)->H' b=some (.frz ob u)):aE P w H' h' a o:=by
 induction o with
 | lst xs=>obtain ⟨z,its,n,r,e⟩:=x;exact {z,its,n,r,k _ _ (.inl rfl) e}
 | tup xs=>obtain ⟨z,its,r,ob,e,c⟩:=x;exact {z,its,r,ob,k _ _ (.inl rfl) e,c}
 | dK kvs=>obtain ⟨z,y,vs,r,ob,es,ep,e,c⟩:=x;exact {z,y,vs,r,ob,es,ep,k _ _ (.inl rfl) e,c}
 | dT kvs=>
  obtain ⟨z,y,xs,r,ob,es,ep,e,c⟩:=x;exact {z,y,xs,Paired.mapP r λp q z=>{z.1,ht _ _ z.2.1,z.2.2},ob,es,ep,k _ _ (.inl rfl) e,c}
 | set S n=>obtain ⟨ob,es,ep,t,e,c⟩:=x;exact {ob,es,ep,t,k _ _ (.inl rfl) e,c}
 | ins C dx fs=>
  obtain ⟨d,z,ne,e,mA,⟨od,es,ep,e2,c⟩,r⟩:=x;exact {ho _ d,z,ne,k _ _ (.inl rfl) e,mA,{od,es,ep,k _ _ (.inr d) e2,c},r}
 | own y=>obtain ⟨ob,e⟩:=x;exact {ob,k _ _ (.inl rfl) e}
 | xd fs=>obtain ⟨mA,⟨od,es,ep,e,c⟩,r⟩:=x;exact {mA,{od,es,ep,k _ _ (.inl rfl) e,c},r}
 | rng lo hi=>obtain ⟨t,u,v,e⟩:=x;exact {t,u,v,k _ _ (.inl rfl) e}
 | frz ob u ih=>obtain ⟨e,q⟩:=x;exact {k _ _ (.inl rfl) e,ih q}
 | tbl pl q=>
  obtain ⟨ps,e,tr,hc⟩:=x;refine {ps,k a _ (.inl rfl) e,tr,λcv ecv=>?_};obtain ⟨c,oc,vs,t,e1,e2,e3⟩:=hc cv ecv;exact {c,oc,vs,t,e1,hf _ _ _ e2,e3}
 | met f y=>
  have e:h.get? a=some (PySem.W.methodObj (.ref f) (.ref y)):=x;show h'.get? a=some (PySem.W.methodObj (.ref f) (.ref y));exact k a _ (.inl rfl) e
 | ext φ=>obtain ⟨p,⟨o,e⟩,st⟩:=x;exact {st _ _ p λo q=>k _ _ (.inl rfl) q,{o,k _ _ (.inl rfl) e},st}
def HOk.lt(x:HOk P w H h)(e:H a=some o):a<h.objs.size:=(x a o e).lt
def HOk.fresh(x:HOk P w H h)(e:h.objs.size<=a):H a=none:=by
 cases q:H a with
 | none=>rfl
 | some u=>exact absurd (Nat.lt_of_lt_of_le (x.lt q) e) (lt_irrefl _)
def HOk.kept(x:HOk P w H h)(k:∀b u,h.get? b=some u->h'.get? b=some u):HOk P w H h':=λa o e=>
 (x a o e).stay (λb u _ q=>k b u q) (λ_ q=>q) (λ_ _ q=>q) λ_ _ _ q=>q
def HOk.laid(x:HOk P w H h)(k:∀b u,h.get? b=some u->h'.get? b=some u)(hp:h.objs.size<=a)(new:aE P w (upd H a o) h' a o):HOk P w (upd H a o) h':=λb u e=>by
 have hn:=x.fresh hp
 by_cases hb:b=a
 ·subst hb;rw[aa] at e;cases e;exact new
 ·rw[ae hb] at e
  exact (x b u e).stay (λc v _ q=>k c v q) (λc q=>by rw[ae (af q hn)];exact q) (λc xs q=>by rw[ae (af q hn)];exact q) λc ob y q=>by rw[ae (af q hn)];exact q
end
def Rd(H:Hp)(a:Addr)(u:HO):Prop:=H a=some u\/∃o,H a=some (.frz o u)
def Rd.ok{P:Program}{w:World}{H:Hp}{h:Heap}{a:Addr}{u:HO}(r:Rd H a u)(x:HOk P w H h):aE P w H h a u:=by
 rcases r with r | ⟨o,r⟩
 ·exact x a u r
 ·obtain ⟨_,q⟩:=x a _ r
  exact q
def Mut:Option HO->Prop
 | some (.lst _)=>True
 | some (.dK _)=>True
 | some (.dT _)=>True
 | some (.set _ _)=>True
 | some (.ins _ _ _)=>True
 | some (.ext _)=>True
 | _=>False
section
variable {P:Program} {w:World} {H:Hp} {h h':Heap} {x e:Addr} {o':HO}
def HOk.write(ok:HOk P w H h)(mu:Mut (H x))(he:e=x\/H e=some (.own x))(k:∀b u,b≠e->h.get? b=some u->h'.get? b=some u)(heo:∃u,h'.get? e=some u)
  (new:aE P w (upd H x o') h' x o'):HOk P w (upd H x o') h':=λb u q=>by
 have nown:∀c y,H c=some (.own y)->c≠x:=λc y r z=>by subst z;rw[r] at mu;exact mu
 have ntup:∀c xs,H c=some (.tup xs)->c≠x:=λc xs r z=>by subst z;rw[r] at mu;exact mu
 have nfrz:∀c ob y,H c=some (.frz ob y)->c≠x:=λc ob y r z=>by subst z;rw[r] at mu;exact mu
 by_cases hb:b=x
 ·subst hb;rw[aa] at q;cases q;exact new
 ·rw[ae hb] at q
  by_cases hbe:b=e
  ·have q':H b=some (.own x):=by
    rcases he with z | z
    ·exact absurd (hbe.trans z) hb
    ·rw[hbe];exact z
   rw[q] at q';cases q';obtain ⟨v,hv⟩:=heo;exact ⟨v,by rw[hbe];exact hv⟩
  ·refine (ok b u q).stay (λc v hc r=>k c v ?_ r) (λc r=>by rw[ae (nown c b r)];exact r) (λc xs r=>by rw[ae (ntup c xs r)];exact r) λc ob y r=>by rw[ae (nfrz c ob y r)];exact r
   rcases hc with rfl | hc
   ·exact hbe
   ·rintro rfl
    rcases he with z | z
    ·exact nown c b hc z
    ·rw[hc] at z;cases z;exact hb rfl
end
structure Un(fs ex:List Addr)(H H':Hp)(h h':Heap):Prop where
 keep:∀b o,h.get? b=some o->H b=none->b∉fs->b∉ex->h'.get? b=some o
 slot:∀b o,h.get? b=some o->H b=none->b∈fs->b∉ex->∃sl,h'.get? b=some { o with slots:=sl }
 free:∀b o,h.get? b=some o->H b=none->b∉ex->H' b=none
 there:∀b o,h.get? b=some o->b∉ex->∃o',h'.get? b=some o'
 tups:∀b xs,H b=some (.tup xs)->H' b=some (.tup xs)
 frzs:∀b o u,H b=some (.frz o u)->H' b=some (.frz o u)
 tbls:∀b pl q,H b=some (.tbl pl q)->H' b=some (.tbl pl q)
section
variable {fs fs' ex ex':List Addr} {H H1 H2:Hp} {h h1 h2 h':Heap} {a x e:Addr} {o:HO}
def Un.any(u:Un fs ex H H1 h h1){b:Addr}{ob:Obj}(q:h.get? b=some ob)(n:H b=none)(hx:b∉ex):∃sl,h1.get? b=some { ob with slots:=sl }:=by
 by_cases hb:b∈fs
 ·exact u.slot b ob q n hb hx
 ·exact {ob.slots,u.keep b ob q n hb hx}
def Un.kept(k:∀b u,h.get? b=some u->h'.get? b=some u):Un fs ex H H h h':=
 ⟨λb ob q _ _ _=>k b ob q,λb ob q _ _ _=>⟨ob.slots,k b ob q⟩,λ_ _ _ n _=>n,λb ob q _=>⟨ob,k b ob q⟩,λ_ _ q=>q,λ_ _ _ q=>q,λ_ _ _ q=>q⟩
def Un.refl:Un fs ex H H h h:=Un.kept λ_ _ q=>q
def Un.laid(k:∀b u,h.get? b=some u->h'.get? b=some u)(hp:h.objs.size<=a)(hn:H a=none):Un fs ex H (upd H a o) h h' where
 keep:=λb u q _ _ _=>k b u q
 slot:=λb u q _ _ _=>⟨u.slots,k b u q⟩
 free:=λb u q n _=>by rw[ae (Nat.ne_of_lt (Nat.lt_of_lt_of_le (lt_size q) hp))];exact n
 there:=λb u q _=>⟨u,k b u q⟩
 tups:=λb xs q=>by rw[ae (af q hn)];exact q
 frzs:=λb u xs q=>by rw[ae (af q hn)];exact q
 tbls:=λb pl y q=>by rw[ae (af q hn)];exact q
def Un.write(mu:Mut (H x))(he:e=x\/H e=some (.own x))(k:∀b u,b≠e->h.get? b=some u->h'.get? b=some u)(heo:∃u,h'.get? e=some u):Un fs ex H (upd H x o) h h':=by
 have hx:∀b,H b=none->b≠x:=λb n z=>by subst z;rw[n] at mu;exact mu
 have hb:∀b,H b=none->b≠e:=λb n z=>by
  subst z;rcases he with r | r
  ·exact hx b n r
  ·rw[n] at r;cases r
 have hm:∀b u,H b=some u->¬ Mut (some u)->b≠x:=λb u q nm z=>by subst z;rw[q] at mu;exact nm mu
 refine ⟨λb u q n _ _=>k b u (hb b n) q,λb u q n _ _=>{u.slots,k b u (hb b n) q},λb u q n _=>by rw[ae (hx b n)];exact n,λb u q _=>?_,
  λb xs q=>by rw[ae (hm b _ q λz=>z)];exact q,λb u xs q=>by rw[ae (hm b _ q λz=>z)];exact q,λb pl y q=>by rw[ae (hm b _ q λz=>z)];exact q⟩
 by_cases hbe:b=e
 ·subst hbe;exact heo
 ·exact {u,k b u hbe q}
end
def trk(h:Heap)(H:Hp):List Addr:=(List.range h.objs.size).filter λa=>(H a).isSome
def nu(h:Heap)(H:Hp):Heap:=PySem.W.hideAll h (trk h H)
def sW(h:Heap)(H:Hp):(nu h H).objs.size=h.objs.size:=PySem.W.hideAll_size _ _
def uL{h:Heap}{H:Hp}{b:Addr}{o:Obj}(e:h.get? b=some o)(n:H b=none):(nu h H).get? b=some o:=
 PySem.W.hideAll_get _ e λhm=>by
  have q:(H b).isSome=true:=(List.mem_filter.mp hm).2;rw[n] at q;simp at q
def wU{h:Heap}{H:Hp}{b:Addr}{o:Obj}(e:(nu h H).get? b=some o):h.get? b=some o/\H b=none:=by
 have e':h.get? b=some o:=PySem.W.of_hideAll (trk h H) e;refine {e',?_};cases q:H b with
 | none=>rfl
 | some x=>
  have hm:b∈trk h H:=List.mem_filter.mpr ⟨mem_range.mpr (lt_size e'),by simp[q]⟩;have z:(nu h H).get? b=none:=PySem.W.hideAll_none (trk h H) hm;rw[z] at e;cases e
structure Mod(K:PySem.W.Frag)(mg:Str->Option Value)(base:Heap):Prop where
 kin:K.In base
 glob:base.Ns mainGlobals mg
 blt:∃mb,base.Ns builtinsNs mb/\∀x:Str,x ≠ "__name__"->mb x=bootBuiltins x
 nolimit:base.NoLimit
 bm:∃bm ob,mg "__builtins__"=some (.ref bm)/\bm≠builtinsNs/\base.get? bm=some ob/\ob.cls=.type "module"/\ob.dict=some builtinsNs/\ob.data=.plain
structure Cx where
 prog:Program
 w:World
 K:PySem.W.Frag
 mg:Str->Option Value
 base:Heap
 A:Around
 N:List Str
 s₀:Shared
 H₀:Hp
 env:Env
 outer:List Env
 stack:List Env
 ex:List Addr
 fn:Str->Bool
 calm:Bool
 pn:List (Addr×Obj)
 xe:Value->Shared->Prop
def frs(l:List Env):List Addr:=l.filterMap (·.frame)
abbrev Cx.fs(X:Cx):List Addr:=frs X.outer
def Vis(sc:Scope)(x:Str):Prop:=sc.names.lookup x=some .local\/sc.names.lookup x=some .cell\/sc.names.lookup x=some .free
def Loc(sc:Scope)(x:Str):Prop:=sc.names.lookup x=some .local\/sc.names.lookup x=some .cell
def CD(env:Env)(h:Heap)(m:Str->Option Value)(x:Str)(u:Value):Prop:=
 (env.kindOf x=some .local/\m x=some u)\/((env.kindOf x=some .cell\/env.kindOf x=some .free)/\∃c,env.cells.lookup x=some c/\h.IsCell c (some u))
structure Cx.Ok(X:Cx):Prop where
 mod:Mod X.K X.mg X.base
 kind:X.env.scope.kind=.function
 glob:X.env.globals=mainGlobals
 blt:X.env.builtins=builtinsNs
 above:X.s₀.heap.objs.size<=X.env.locals
 inj:∀x y c,X.env.cells.lookup x=some c->X.env.cells.lookup y=some c->x=y
 has:∀x,(X.env.kindOf x=some .cell\/X.env.kindOf x=some .free)->∃c,X.env.cells.lookup x=some c
 cab:∀x c,X.fn x=true->X.env.cells.lookup x=some c->X.s₀.heap.objs.size<=c
 hd:X.calm=true->X.A.handled=none
 frames:X.A.frames=some X.stack
 stk:X.stack=X.outer\/(X.stack=X.env::X.outer/\X.env.frame=some X.env.locals)
 exf:∀b∈X.ex,b≠X.env.locals/\∀x c,X.env.cells.lookup x=some c->c≠b
 bs:∀b o,X.base.get? b=some o->X.s₀.heap.get? b=some o/\X.H₀ b=none
 bsz:X.base.objs.size<=X.s₀.heap.objs.size
 noex:∀b o,X.base.get? b=some o->b∉X.ex
 exfs:∀b∈X.ex,b∉X.fs
 funs:X.s₀.heap.FunFrames X.base X.outer
 frf:∀b∈X.fs,X.H₀ b=none
structure Inv(X:Cx)(pins:List (Addr×Obj))(σ:List (Option V))(H:Hp)(s:Shared):Prop where
 ok:X.Ok
 os:s.os=X.s₀.os
 bare:AllBare s.gens
 base:Un X.fs X.ex X.H₀ H X.s₀.heap s.heap
 loc:∃m,s.heap.Ns X.env.locals m/\∀(i:Nat) (x:Str) (v:V),X.N[i]?=some x->σ[i]?=some (some v)->Vis X.env.scope x->∃u,av v u/\CD X.env s.heap m x u
 cell:∀x c,X.env.cells.lookup x=some c->∃v,s.heap.IsCell c v
 free:H X.env.locals=none
 freeC:∀x c,X.env.cells.lookup x=some c->H c=none
 pin:∀p∈X.pn++pins,s.heap.get? p.1=some p.2/\H p.1=none/\p.1≠X.env.locals/\p.1∉X.fs/\∀v,p.2.data≠.cell v
 hok:HOk X.prog X.w H s.heap
 len:σ.length=X.N.length
section
variable {X:Cx} {pins:List (Addr×Obj)} {σ:List (Option V)} {H H':Hp} {s:Shared} {h':Heap}
def Cx.Ok.nofr(ok:X.Ok){b:Addr}{o:Obj}(e:X.base.get? b=some o):b∉X.fs:=λhb=>by
 have:=(ok.funs.mem hb).1;rw[e] at this;cases this
def Inv.bs(I:Inv X pins σ H s):∀b o,X.base.get? b=some o->s.heap.get? b=some o/\H b=none:=λb o e=>
 ⟨I.base.keep b o (I.ok.bs b o e).1 (I.ok.bs b o e).2 (I.ok.nofr e) (I.ok.noex b o e),I.base.free b o (I.ok.bs b o e).1 (I.ok.bs b o e).2 (I.ok.noex b o e)⟩
def Inv.bk(I:Inv X pins σ H s):∀b o,X.base.get? b=some o->s.heap.get? b=some o:=λb o e=>(I.bs b o e).1
def Inv.mod(I:Inv X pins σ H s):Mod X.K X.mg X.base:=I.ok.mod
def Inv.kIn(I:Inv X pins σ H s):X.K.In s.heap:=I.ok.mod.kin.keeps I.bk
def Inv.nolimit(I:Inv X pins σ H s):s.heap.NoLimit:=I.ok.mod.nolimit.keeps I.bk
def Inv.fr(I:Inv X pins σ H s):∃m,Fr X.base X.env.locals s.heap m:=
 let ⟨m,hn,_⟩:=I.loc
 ⟨m,hn,I.bk,Nat.le_trans I.ok.bsz I.ok.above⟩
def Inv.lt(I:Inv X pins σ H s):X.env.locals<s.heap.objs.size:=let ⟨_,hn,_⟩:=I.loc;hn.lt
def Inv.sz(I:Inv X pins σ H s):X.s₀.heap.objs.size<=s.heap.objs.size:=Nat.le_trans I.ok.above (Nat.le_of_lt I.lt)
def Inv.nofs(I:Inv X pins σ H s){a:Addr}(h:s.heap.objs.size<=a):a∉X.fs:=λhb=>by
 obtain ⟨_,o,ho,_⟩:=I.ok.funs.mem hb;exact absurd (Nat.lt_of_lt_of_le (lt_size ho) (Nat.le_trans I.sz h)) (lt_irrefl _)
def Inv.cne(I:Inv X pins σ H s):∀x c,X.env.cells.lookup x=some c->c≠X.env.locals:=λx c e z=>by
 obtain ⟨v,o,ho,hd⟩:=I.cell x c e;obtain ⟨m,⟨o',es,ep,ho',hd',_⟩,_⟩:=I.loc;rw[z,ho'] at ho;cases ho;rw[hd'] at hd;cases hd
def Inv.funs(I:Inv X pins σ H s):s.heap.FunFrames X.base X.outer:=by
 have all:∀(l:List Env),(∀b∈frs l,b∈X.fs)->X.s₀.heap.FunFrames X.base l->s.heap.FunFrames X.base l:=by
  intro l
  induction l with
  | nil=>intro _ _;trivial
  | cons env r ih=>
   intro hs hl;obtain ⟨hk,⟨L,o,hf,hn,ho,hd⟩,hr⟩:=hl;have hL:L∈X.fs:=hs L (by unfold frs;rw[List.filterMap_cons,hf];exact mem_cons_self);obtain ⟨sl,e⟩:=I.base.slot L o ho (I.ok.frf L hL) hL λz=>I.ok.exfs L z hL;exact ⟨hk,{L,_,hf,hn,e,hd},ih (λb hb=>hs b (by unfold frs;rw[List.filterMap_cons,hf];exact mem_cons_of_mem _ hb)) hr⟩
 exact all X.outer (λ_ hb=>hb) I.ok.funs
def Inv.stack(I:Inv X pins σ H s):s.heap.FunFrames X.base X.stack:=by
 rcases I.ok.stk with e | ⟨e,hf⟩
 ·rw[e];exact I.funs
 ·rw[e]
  obtain ⟨m,hn,_⟩:=I.loc;refine .cons (by rw[I.ok.kind];decide) hf hn ?_ I.funs;exact get?_none_of_le (Nat.le_trans I.ok.bsz I.ok.above)
def Inv.stkSub(I:Inv X pins σ H s):∀b∈frs X.stack,b∈X.env.locals::X.fs:=λb hb=>by
 rcases I.ok.stk with e | ⟨e,hf⟩
 ·rw[e] at hb;exact mem_cons_of_mem _ hb
 ·rw[e] at hb
  unfold frs at hb;rw[List.filterMap_cons,hf] at hb;exact hb
def Inv.stkFree(I:Inv X pins σ H s):∀b∈frs X.stack,H b=none:=λb hb=>by
 rcases mem_cons.mp (I.stkSub b hb) with e | hb
 ·rw[e];exact I.free
 ·obtain ⟨_,o,ho,_⟩:=I.ok.funs.mem hb
  exact I.base.free b o ho (I.ok.frf b hb) λz=>I.ok.exfs b z hb
def Inv.step{g':Array GenState}{t':Nat}{d':Drawn}{ch:List Addr}(I:Inv X pins σ H s)
  (hch:∀b∈ch,(b∈X.ex\/X.s₀.heap.objs.size<=b)/\b≠X.env.locals/\(∀x c,X.env.cells.lookup x=some c->c≠b)/\∀p∈X.pn++pins,p.1≠b)
  (keep:∀b o,b≠X.env.locals->b∉X.fs->b∉ch->s.heap.get? b=some o->H b=none->h'.get? b=some o)
  (slot:∀b o,b≠X.env.locals->b∈X.fs->b∉ch->s.heap.get? b=some o->H b=none->∃sl,h'.get? b=some { o with slots:=sl }) (free:∀b o,b∉ch->s.heap.get? b=some o->H b=none->H' b=none)
  (there:∀b o,b∉ch->s.heap.get? b=some o->∃o',h'.get? b=some o')
  (tups:∀b xs,H b=some (.tup xs)->H' b=some (.tup xs)) (frzs:∀b o u,H b=some (.frz o u)->H' b=some (.frz o u)) (tbls:∀b pl q,H b=some (.tbl pl q)->H' b=some (.tbl pl q))
  (ns:∀m,s.heap.Ns X.env.locals m->h'.Ns X.env.locals m) (hok:HOk X.prog X.w H' h') (hg:AllBare g'):
  Inv X pins σ H' { s with heap:=h',gens:=g',drawn:=d',toks:=t' }:=by
 have neL:∀b o,X.s₀.heap.get? b=some o->b≠X.env.locals:=λb o e=>Nat.ne_of_lt (Nat.lt_of_lt_of_le (lt_size e) I.ok.above);have neC:∀b o,X.s₀.heap.get? b=some o->b∉X.ex->b∉ch:=λb o e hx hb=>by
  rcases (hch b hb).1 with z | z
  ·exact hx z
  ·exact absurd (Nat.lt_of_lt_of_le (lt_size e) z) (lt_irrefl _)
 have cellK:∀x c,X.env.cells.lookup x=some c->∀v,s.heap.IsCell c v->h'.IsCell c v:=λx c e v ⟨o,ho,hd⟩=>by
  have nch:c∉ch:=λz=>(hch c z).2.2.1 x c e rfl
  by_cases hc:c∈X.fs
  ·obtain ⟨sl,q⟩:=slot c o (I.cne x c e) hc nch ho (I.freeC x c e)
   exact {_,q,hd}
  ·exact {o,keep c o (I.cne x c e) hc nch ho (I.freeC x c e),hd}
 refine {I.ok,I.os,hg,{λb o e n hb hx=>?_,λb o e n hb hx=>?_,λb o e n hx=>?_,λb o e hx=>?_,λb xs e=>tups b xs (I.base.tups b xs e),λb o xs e=>frzs b o xs (I.base.frzs b o xs e),λb pl y e=>tbls b pl y (I.base.tbls b pl y e)},?_,λx c e=>?_,?_,λx c e=>?_,λp hp=>?_,hok,I.len}
 ·exact keep b o (neL b o e) hb (neC b o e hx) (I.base.keep b o e n hb hx) (I.base.free b o e n hx)
 ·obtain ⟨sl,e1⟩:=I.base.slot b o e n hb hx
  obtain ⟨sl',e2⟩:=slot b _ (neL b o e) hb (neC b o e hx) e1 (I.base.free b o e n hx);exact ⟨sl',e2⟩
 ·obtain ⟨o',e1⟩:=I.base.there b o e hx
  exact free b o' (neC b o e hx) e1 (I.base.free b o e n hx)
 ·obtain ⟨o',e1⟩:=I.base.there b o e hx
  exact there b o' (neC b o e hx) e1
 ·obtain ⟨m,hn,hl⟩:=I.loc
  refine {m,ns m hn,λi x v e1 e2 e3=>?_};obtain ⟨u,r,l⟩:=hl i x v e1 e2 e3;refine {u,r,?_};rcases l with l | ⟨k,c,e,z⟩
  ·exact .inl l
  ·exact .inr {k,c,e,cellK x c e _ z}
 ·obtain ⟨v,z⟩:=I.cell x c e
  exact {v,cellK x c e v z}
 ·obtain ⟨m,⟨o,_,_,ho,_⟩,_⟩:=I.loc
  exact free _ o (λz=>(hch _ z).2.1 rfl) ho I.free
 ·obtain ⟨v,o,ho,hd⟩:=I.cell x c e
  exact free c o (λz=>(hch c z).2.2.1 x c e rfl) ho (I.freeC x c e)
 ·obtain ⟨e,n,ne,nf,d⟩:=I.pin p hp
  have nch:p.1∉ch:=λz=>(hch p.1 z).2.2.2 p hp rfl;exact {keep p.1 p.2 ne nf nch e n,free p.1 p.2 nch e n,ne,nf,d}
def Inv.un{t':Nat}(I:Inv X pins σ H s)(u:Un X.fs [] H H' s.heap h')(hok:HOk X.prog X.w H' h'):Inv X pins σ H' { s with heap:=h',toks:=t' }:=by
 obtain ⟨m,⟨o,es,ep,ho,r⟩,_⟩:=id I.loc;obtain ⟨sl,hL⟩:=u.any ho I.free (by simp);exact I.step (g':=s.gens) (d':=s.drawn) (ch:=[]) (λ_ z=>nomatch z) (λb o _ hb _ e n=>u.keep b o e n hb (by simp)) (λb o _ hb _ e n=>u.slot b o e n hb (by simp)) (λb o _ e n=>u.free b o e n (by simp)) (λb o _ e=>u.there b o e (by simp)) u.tups u.frzs u.tbls (λm' hm=>by
  obtain ⟨o',es',ep',ho',r'⟩:=hm;rw[ho] at ho';cases ho';exact {_,es',ep',hL,r'}) hok I.bare
def Inv.call{g':Array GenState}{t':Nat}{d':Drawn}{ch:List Addr}(I:Inv X pins σ H s)(u:Un (frs X.stack) ch H H' s.heap h')(hok:HOk X.prog X.w H' h')(hg:AllBare g')
  (hch:∀b∈ch,(b∈X.ex\/X.s₀.heap.objs.size<=b)/\b≠X.env.locals/\(∀x c,X.env.cells.lookup x=some c->c≠b)/\∀p∈X.pn++pins,p.1≠b):
  Inv X pins σ H' { s with heap:=h',gens:=g',drawn:=d',toks:=t' }:=by
 obtain ⟨m,⟨o,es,ep,ho,r⟩,_⟩:=id I.loc;obtain ⟨sl,hL⟩:=u.any ho I.free λz=>(hch _ z).2.1 rfl;exact I.step (ch:=ch) hch (λb o hL hb hc e n=>u.keep b o e n (λz=>(mem_cons.mp (I.stkSub b z)).elim hL hb) hc) (λb o _ _ hc e n=>u.any e n hc) (λb o hc e n=>u.free b o e n hc) (λb o hc e=>u.there b o e hc) u.tups u.frzs u.tbls (λm' hm=>by
  obtain ⟨o',es',ep',ho',r'⟩:=hm;rw[ho] at ho';cases ho';exact {_,es',ep',hL,r'}) hok hg
def Inv.turned{t':Nat}{it:Addr}(I:Inv X pins σ H s)(k:∀b o,b≠it->s.heap.get? b=some o->h'.get? b=some o)(hn:H it=none)(hL:it≠X.env.locals)
  (h1:it∈X.ex\/X.s₀.heap.objs.size<=it) (h2:∀x c,X.env.cells.lookup x=some c->c≠it) (h3:∀p∈X.pn++pins,p.1≠it):Inv X pins σ H { s with heap:=h',toks:=t' }:=by
 have nit:∀b u,H b=some u->b≠it:=λb u e z=>by rw[z,hn] at e;cases e
 refine I.step (g':=s.gens) (d':=s.drawn) (ch:=[it]) (λb hb=>?_) (λb o _ _ hc e _=>k b o (λz=>hc (by simp[z])) e) (λb o _ _ hc e _=>{o.slots,k b o (λz=>hc (by simp[z])) e}) (λ_ _ _ _ n=>n)
  (λb o hc e=>⟨o,k b o (λz=>hc (by simp[z])) e⟩) (λ_ _ e=>e) (λ_ _ _ e=>e) (λ_ _ _ e=>e) (λm hm=>?_) (λb u e=>?_) I.bare
 ·have e:b=it:=by simpa using hb
  subst e;exact ⟨h1,hL,h2,h3⟩
 ·obtain ⟨o,es,ep,ho,r⟩:=hm
  exact {o,es,ep,k _ o (Ne.symm hL) ho,r}
 ·refine (I.hok b u e).stay (λc v hc q=>k c v ?_ q) (λ_ q=>q) (λ_ _ q=>q) λ_ _ _ q=>q
  rcases hc with z | z
  ·rw[z];exact nit b u e
  ·exact nit c _ z
def Inv.tok(I:Inv X pins σ H s)(t:Nat):Inv X pins σ H { s with toks:=t }:=I.un (h':=s.heap) (t':=t) Un.refl I.hok
def Inv.kept{t':Nat}(I:Inv X pins σ H s)(k:∀b u,s.heap.get? b=some u->h'.get? b=some u):Inv X pins σ H { s with heap:=h',toks:=t' }:=I.un (Un.kept k) (I.hok.kept k)
def Inv.laid{a:Addr}{o:HO}{t':Nat}(I:Inv X pins σ H s)(k:∀b u,s.heap.get? b=some u->h'.get? b=some u)(hp:s.heap.objs.size<=a)(new:aE X.prog X.w (upd H a o) h' a o):
  Inv X pins σ (upd H a o) { s with heap:=h',toks:=t' }:=I.un (Un.laid k hp (I.hok.fresh hp)) (I.hok.laid k hp new)
def Inv.write{x e:Addr}{o:HO}{t':Nat}(I:Inv X pins σ H s)(mu:Mut (H x))(he:e=x\/H e=some (.own x))(k:∀b u,b≠e->s.heap.get? b=some u->h'.get? b=some u)(heo:∃u,h'.get? e=some u)
  (new:aE X.prog X.w (upd H x o) h' x o):Inv X pins σ (upd H x o) { s with heap:=h',toks:=t' }:=I.un (Un.write mu he k heo) (I.hok.write mu he k heo new)
def Inv.pins_of{pins':List (Addr×Obj)}(I:Inv X pins σ H s)(h:∀p∈pins',s.heap.get? p.1=some p.2/\H p.1=none/\p.1≠X.env.locals/\p.1∉X.fs/\∀v,p.2.data≠.cell v):Inv X pins' σ H s:=
 ⟨I.ok,I.os,I.bare,I.base,I.loc,I.cell,I.free,I.freeC,λp hp=>(mem_append.mp hp).elim (λz=>I.pin p (mem_append_left _ z)) (h p),I.hok,I.len⟩
def om{N:List Str}(hN:N.Nodup){i j:Nat}{x:Str}(a:N[i]?=some x)(b:N[j]?=some x):i=j:=by
 obtain ⟨h1,e1⟩:=List.getElem?_eq_some_iff.mp a;obtain ⟨h2,e2⟩:=List.getElem?_eq_some_iff.mp b;exact (List.getElem_inj hN).mp (e1.trans e2.symm)
def mo{M:Model}{A:Around}{E:Value->Shared->Prop}{i:Nat}{x:Str}{v:V}{u:Value}{Q:Unit->Shared->Prop}(I:Inv X pins σ H s)(hN:X.N.Nodup)(hi:X.N[i]?=some x)(hx:Loc X.env.scope x)(r:av v u)
  (h:∀s',Inv X pins (σ.set i (some v)) H s'->(∃a,Heap.SameBut a s.heap s'.heap/\(a=X.env.locals\/X.env.cells.lookup x=some a))->Q Unit.unit s') (hf:X.fn x=true\/X.env.scope.names.lookup x=some .local:=by first | exact .inl rfl | exact .inr rfl | assumption):wpAny M A (storeName X.env x u) Q E s:=by
 obtain ⟨m,hn,hl⟩:=id I.loc;have hcls:(X.env.scope.kind==.class||(X.env.scope.kind==.module&&X.env.locals != X.env.globals))=false:=by rw[I.ok.kind];rfl
 have hiσ:i<σ.length:=by rw[I.len];exact (List.getElem?_eq_some_iff.mp hi).1
 have cne:=I.cne;have tracked:∀{a:Addr} {h':Heap},(∃o,s.heap.get? a=some o/\H a=none)->Heap.SameBut a s.heap h'->HOk X.prog X.w H h':=λ{a h'} ha hs b ob e=>by
  obtain ⟨_,_,hfree⟩:=ha;refine (I.hok b ob e).stay (λc w' hc q=>(hs.2 c ?_).trans q) (λ_ q=>q) (λ_ _ q=>q) λ_ _ _ q=>q;rintro rfl;rcases hc with rfl | hc
  ·rw[hfree] at e;cases e
  ·rw[hfree] at hc;cases hc
 rcases hx with hk | hk
 ·refine wpAny_storeName_local hk hn (λh' hn' hs=>?_) hcls
  obtain ⟨oL,_,_,hoL,_⟩:=id hn;refine h _ ⟨I.ok,I.os,I.bare,{λb o e n hb hx=>?_,λb o e n hb hx=>?_,I.base.free,λb o e hx=>?_,I.base.tups,I.base.frzs,I.base.tbls},{_,hn',λj y v' e1 e2 e3=>?_},λy c e=>?_,I.free,I.freeC,λp hp=>?_,tracked ⟨oL,hoL,I.free⟩ hs,by simpa using I.len⟩ {_,hs,.inl rfl}
  ·exact (hs.2 b (Nat.ne_of_lt (Nat.lt_of_lt_of_le (lt_size e) I.ok.above))).trans (I.base.keep b o e n hb hx)
  ·obtain ⟨sl,e1⟩:=I.base.slot b o e n hb hx
   exact {sl,(hs.2 b (Nat.ne_of_lt (Nat.lt_of_lt_of_le (lt_size e) I.ok.above))).trans e1}
  ·obtain ⟨o',e1⟩:=I.base.there b o e hx
   exact {o',(hs.2 b (Nat.ne_of_lt (Nat.lt_of_lt_of_le (lt_size e) I.ok.above))).trans e1}
  ·by_cases hj:j=i
   ·subst hj
    rw[hi] at e1;cases e1;rw[getElem?_set_self hiσ] at e2;cases e2;exact {u,r,.inl ⟨hk,by simp⟩}
   ·rw[getElem?_set_ne (Ne.symm hj)] at e2
    obtain ⟨u',r',q⟩:=hl j y v' e1 e2 e3;refine {u',r',?_};rcases q with ⟨k,e⟩ | ⟨k,c,e,z⟩
    ·refine .inl {k,?_}
     have:y≠x:=λe=>hj (om hN e1 (e▸hi));simp[this,e]
    ·exact .inr {k,c,e,z.sameBut hs (cne y c e)}
  ·obtain ⟨w',z⟩:=I.cell y c e
   exact {w',z.sameBut hs (cne y c e)}
  ·obtain ⟨e,n,ne,nf,d⟩:=I.pin p hp
   exact {(hs.2 p.1 ne).trans e,n,ne,nf,d}
 ·have hfn:X.fn x=true:=by
   rcases hf with z | z
   ·exact z
   ·rw[z] at hk;cases hk
  obtain ⟨c,hc⟩:=I.ok.has x (.inl hk);obtain ⟨w',z⟩:=I.cell x c hc;refine wpAny_storeName_cell I.ok.kind hk hc z (λh' hc' hs=>?_);obtain ⟨oc,hoc,hocd⟩:=id z;refine h { s with heap:=h' } ⟨I.ok,I.os,I.bare,{λb o e n hb hx=>?_,λb o e n hb hx=>?_,I.base.free,λb o e hx=>?_,I.base.tups,I.base.frzs,I.base.tbls},{m,hn.sameBut hs (Ne.symm (cne x c hc)),λj y v' e1 e2 e3=>?_},λy c' e=>?_,I.free,I.freeC,λp hp=>?_,tracked {oc,hoc,I.freeC x c hc} hs,by simpa using I.len⟩ {c,hs,.inr hc}
  ·exact (hs.2 b (Nat.ne_of_lt (Nat.lt_of_lt_of_le (lt_size e) (I.ok.cab x c hfn hc)))).trans (I.base.keep b o e n hb hx)
  ·obtain ⟨sl,e1⟩:=I.base.slot b o e n hb hx
   exact {sl,(hs.2 b (Nat.ne_of_lt (Nat.lt_of_lt_of_le (lt_size e) (I.ok.cab x c hfn hc)))).trans e1}
  ·obtain ⟨o',e1⟩:=I.base.there b o e hx
   exact {o',(hs.2 b (Nat.ne_of_lt (Nat.lt_of_lt_of_le (lt_size e) (I.ok.cab x c hfn hc)))).trans e1}
  ·by_cases hj:j=i
   ·subst hj
    rw[hi] at e1;cases e1;rw[getElem?_set_self hiσ] at e2;cases e2;exact {u,r,.inr {.inl hk,c,hc,hc'}}
   ·rw[getElem?_set_ne (Ne.symm hj)] at e2
    obtain ⟨u',r',q⟩:=hl j y v' e1 e2 e3;refine {u',r',?_};rcases q with q | ⟨k,c',e,z'⟩
    ·exact .inl q
    ·refine .inr {k,c',e,z'.sameBut hs ?_}
     rintro rfl;exact hj (om hN e1 (I.ok.inj _ _ _ e hc▸hi))
  ·by_cases hcc:c'=c
   ·subst hcc;exact {_,hc'}
   ·obtain ⟨w2,z2⟩:=I.cell y c' e
    exact {w2,z2.sameBut hs hcc}
  ·obtain ⟨e,n,ne,nf,d⟩:=I.pin p hp
   refine {(hs.2 p.1 ?_).trans e,n,ne,nf,d};intro q;rw[q,hoc] at e;have q':oc=p.2:=Option.some.inj e;exact d w' (by rw[<- q'];exact hocd)
def cM{M:Model}{A:Around}{E:Value->Shared->Prop}{i:Nat}{x:Str}{v:V}{u:Value}{Q:Unit->Shared->Prop}(I:Inv X pins σ H s)(hN:X.N.Nodup)(hi:X.N[i]?=some x)(hx:Loc X.env.scope x)(r:av v u)
  (h:∀s',Inv X pins (σ.set i (some v)) H s'->Q Unit.unit s') (hf:X.fn x=true\/X.env.scope.names.lookup x=some .local:=by first | exact .inl rfl | exact .inr rfl | assumption):wpAny M A (storeName X.env x u) Q E s:=
 mo I hN hi hx r (λs' I' _=>h s' I') hf
def Inv.call'{s':Shared}{ch:List Addr}(I:Inv X pins σ H s)(ho:s'.os=s.os)(u:Un (frs X.stack) ch H H' s.heap s'.heap)(hok:HOk X.prog X.w H' s'.heap)(hg:AllBare s'.gens)
  (hch:∀b∈ch,(b∈X.ex\/X.s₀.heap.objs.size<=b)/\b≠X.env.locals/\(∀x c,X.env.cells.lookup x=some c->c≠b)/\∀p∈X.pn++pins,p.1≠b):Inv X pins σ H' s':=by
 obtain ⟨h',g',d',t',o'⟩:=s';have e:o'=s.os:=ho;subst e;exact I.call (g':=g') (t':=t') (d':=d') u hok hg hch
end
abbrev XK:=Value->Option Addr->Hp->Prop
abbrev St:=List (Option V)
abbrev VK:=V->Hp->Prop
abbrev TE:=St->Hp->VK->Prop
abbrev TT:=St->Hp->(Bool->Hp->Prop)->Prop
abbrev TA:=St->Hp->(List V->Hp->Prop)->Prop
structure cR where
 nx:St->Hp->Prop
 rt:VK
 bk:St->Hp->Prop:=λ_ _=>False
 ct:St->Hp->Prop:=λ_ _=>False
abbrev TS:=cR->St->Hp->Prop
def EP(X:Cx)(pins:List (Addr×Obj))(σ:St)(Q:VK)(u:Value)(s':Shared):Prop:=∃v H',Inv X pins σ H' s'/\av v u/\Q v H'
def TP(X:Cx)(pins:List (Addr×Obj))(σ:St)(Q:Bool->Hp->Prop)(b:Bool)(s':Shared):Prop:=∃H',Inv X pins σ H' s'/\Q b H'
def AP(X:Cx)(pins:List (Addr×Obj))(σ:St)(Q:List V->Hp->Prop)(us:List Value)(s':Shared):Prop:=∃vs H',Inv X pins σ H' s'/\aq vs us/\Q vs H'
def SP(X:Cx)(pins:List (Addr×Obj))(D:cR)(f:Flow)(s':Shared):Prop:=
 match f with
 | .next=>∃σ' H',Inv X pins σ' H' s'/\D.nx σ' H'
 | .brk=>∃σ' H',Inv X pins σ' H' s'/\D.bk σ' H'
 | .cont=>∃σ' H',Inv X pins σ' H' s'/\D.ct σ' H'
 | .ret u=>∃v σ' H',Inv X pins σ' H' s'/\av v u/\D.rt v H'
def PE(X:Cx)(e:Expr)(t:TE):Prop:=
 ∀(pins:List (Addr×Obj)) (s:Shared) (σ:St) (H:Hp) (Q:VK),Inv X pins σ H s->t σ H Q->wpAny (model X.prog X.w) X.A (eval e X.env) (EP X pins σ Q) X.xe s
def PT(X:Cx)(e:Expr)(t:TT):Prop:=
 ∀(pins:List (Addr×Obj)) (s:Shared) (σ:St) (H:Hp) (Q:Bool->Hp->Prop),Inv X pins σ H s->t σ H Q->wpAny (model X.prog X.w) X.A (isTrue e X.env (eval e X.env)) (TP X pins σ Q) X.xe s
def PW(X:Cx)(e:Expr)(t:TT):Prop:=
 ∀(whole:Sem Value) (pins:List (Addr×Obj)) (s:Shared) (σ:St) (H:Hp) (Q:Bool->Hp->Prop),Inv X pins σ H s->t σ H Q->wpAny (model X.prog X.w) X.A (isTrue e X.env whole) (TP X pins σ Q) X.xe s
def PW.pt{X:Cx}{e:Expr}{t:TT}(h:PW X e t):PT X e t:=h _
def PA(X:Cx)(es:List Expr)(t:TA):Prop:=
 ∀(pos:Pos) (pins:List (Addr×Obj)) (s:Shared) (σ:St) (H:Hp) (Q:List V->Hp->Prop),Inv X pins σ H s->t σ H Q->wpAny (model X.prog X.w) X.A (spliced (backTo pos (starEach es X.env))) (AP X pins σ Q) X.xe s
def PS(X:Cx)(st:Stmt)(t:TS):Prop:=
 ∀(pins:List (Addr×Obj)) (s:Shared) (σ:St) (H:Hp) (D:cR),Inv X pins σ H s->t D σ H->wpAny (model X.prog X.w) X.A (exec st X.env) (SP X pins D) X.xe s
def PSs(X:Cx)(st:List Stmt)(t:TS):Prop:=
 ∀(pins:List (Addr×Obj)) (s:Shared) (σ:St) (H:Hp) (D:cR),Inv X pins σ H s->t D σ H->wpAny (model X.prog X.w) X.A (execs st X.env) (SP X pins D) X.xe s
def thn{α:Type}{t:Sem α}{Q Q':α->Shared->Prop}{M:Model}{A:Around}{E:Value->Shared->Prop}{s:Shared}(h:wpAny M A t Q E s)(hQ:∀a s,Q a s->Q' a s):wpAny M A t Q' E s:=wpAny_mono h hQ λ_ _ x=>x
section
variable {X:Cx}
inductive sX(i:Nat)(σ:St)(H:Hp)(Q:VK):Prop
 | mk (v:_):σ[i]?=some (some v)->Q v H->sX i σ H Q
def tC(v:V):TE:=λ_ H Q=>Q v H
def pU {i:Nat} {x:Str} {pos:Pos} (hN:X.N[i]?=some x) (hv:Vis X.env.scope x) (hd:(x==("__debug__":Str))=false:=by decide) (hcd:(x==("__classdict__":Str))=false:=by decide):PE X (.Name x pos) (sX i):=by
 intro pins s σ H Q I h;obtain ⟨v,e,h⟩:=h;obtain ⟨m,hn,hl⟩:=I.loc;obtain ⟨u,r,l⟩:=hl i x v hN e hv;have fin:EP X pins σ Q u s:=⟨v,H,I,r,h⟩;rcases l with ⟨hk,hm⟩ | ⟨hk,c,hc,hcell⟩
 ·exact wpAny_Name (wpAny_loadName_local I.ok.kind hk hn hm fin) hd
 ·rcases hk with hk | hk
  ·exact wpAny_Name (wpAny_loadName_cell I.ok.kind hk hc hcell fin) hd
  ·exact wpAny_Name (wpAny_loadName_free I.ok.kind hk hc hcell fin hcd) hd
def eu{i j pos}:PE X (.Constant (.int i) j pos) (tC (.int i)):=λ_ _ _ H _ I h=>wpAny_Constant_int ⟨.int i,H,I.tok _,⟨_,rfl⟩,h⟩
def Bx{b j pos}:PE X (.Constant (.bool b) j pos) (tC (.bl b)):=λ_ _ _ H _ I h=>Constant_bool ⟨.bl b,H,I,rfl,h⟩
def zY{j pos}:PE X (.Constant .none j pos) (tC .non):=λ_ _ _ H _ I h=>Constant_none ⟨.non,H,I,rfl,h⟩
def uM{x j pos}:PE X (.Constant (.str x) j pos) (tC (.str x)):=λ_ _ _ H _ I h=>Calls.Constant_str ⟨.str x,H,I.tok _,⟨_,rfl⟩,h⟩
def Gl(X:Cx)(x:Str):Prop:=X.env.kindOf x=some .globalImplicit
def fi{E:Value->Shared->Prop}{pins:List (Addr×Obj)}{s:Shared}{σ:St}{H:Hp}{x:Str}{u:Value}{pos:Pos}{Q:Value->Shared->Prop}(I:Inv X pins σ H s)(hg:Gl X x)(hm:X.mg x=some u)(h:Q u s)
  (hd:(x==("__debug__":Str))=false:=by decide):wpAny (model X.prog X.w) X.A (eval (.Name x pos) X.env) Q E s:=
 Calls.Name_function_global I.ok.kind hg (Calls.loadGlobal_global (by rw[I.ok.glob];exact I.mod.glob.keeps I.bk) hm h) hd
def du{E:Value->Shared->Prop}{pins:List (Addr×Obj)}{s:Shared}{σ:St}{H:Hp}{x:Str}{u:Value}{pos:Pos}{Q:Value->Shared->Prop}(I:Inv X pins σ H s)(hg:Gl X x)(hm:X.mg x=none)(hv:bootBuiltins x=some u)(h:Q u s)
  (hn:x ≠ "__name__":=by decide) (hd:(x==("__debug__":Str))=false:=by decide):wpAny (model X.prog X.w) X.A (eval (.Name x pos) X.env) Q E s:=by
 obtain ⟨mb,h1,h2⟩:=I.mod.blt;exact Calls.Name_function_global I.ok.kind hg (Calls.loadGlobal_builtin (by rw[I.ok.glob];exact I.mod.glob.keeps I.bk) hm (by rw[I.ok.blt];exact h1.keeps I.bk) ((h2 x hn).trans hv) h) hd
def wV {x:Str} {v:V} {u:Value} {pos:Pos} (hg:Gl X x) (hm:X.mg x=some u) (r:av v u) (hd:(x==("__debug__":Str))=false:=by decide):PE X (.Name x pos) (tC v):=
 λ_ _ _ H _ I h=>fi I hg hm ⟨v,H,I,r,h⟩ hd
def wW {x:Str} {v:V} {u:Value} {pos:Pos} (hg:Gl X x) (hm:X.mg x=none) (hv:bootBuiltins x=some u) (r:av v u) (hn:x ≠ "__name__":=by decide) (hd:(x==("__debug__":Str))=false:=by decide):PE X (.Name x pos) (tC v):=
 λ_ _ _ H _ I h=>du I hg hm hv ⟨v,H,I,r,h⟩ hn hd
variable {a b:Expr} {ta tb:TE} {pos:Pos}
def PC(X:Cx)(op:CmpOp)(a b:Expr)(t:TE):Prop:=
 ∀(pins:List (Addr×Obj)) (s:Shared) (σ:St) (H:Hp) (Q:VK),Inv X pins σ H s->t σ H Q->
  wpAny (model X.prog X.w) X.A (eval a X.env) (λv s₁=>wpAny (model X.prog X.w) X.A (eval b X.env) (λu s₂=>wpAny (model X.prog X.w) X.A (compareOp op v u) (EP X pins σ Q) X.xe s₂) X.xe s₁) X.xe s
inductive iB(x:V)(H:Hp)(Q:Bool->Hp->Prop):Prop
 | mk (c:_):x=.bl c->Q c H->iB x H Q
def tB(t:TE):TT:=λσ H Q=>t σ H λx H1=>iB x H1 Q
def uN{op:CmpOp}{t:TE}(h:PC X op a b t)(h1:behindInMarks op b=false:=by first | exact nobehind _ (by decide) (by decide) | rfl):PT X (.Compare a [op] [b] pos) (tB t):=by
 intro pins s σ H Q I hw;refine wpAny_isTrue_Compare1 (thn (h pins s σ H _ I hw) λv s1 h1=>thn h1 λu s2 h2=>thn h2 λc s3 ⟨x,H1,I1,r1,q1⟩=>?_) h1;obtain ⟨d,rfl,q⟩:=q1;cases r1;exact wpAny_truthy_bool ⟨H1,I1,q⟩
variable {tA tB':TT} {rest:List Expr}
def CF(t u:TT):TT:=λσ H Q=>t σ H λc H1=>if c=true then u σ H1 Q else Q false H1
def tOr(t u:TT):TT:=λσ H Q=>t σ H λc H1=>if c=true then Q true H1 else u σ H1 Q
def CG(t:TT):TT:=λσ H Q=>t σ H λc H1=>Q (!c) H1
def wX(ha:PT X a tA):PW X (.BoolOp .And [a] pos) tA:=by
 intro wh pins s σ H Q I h;refine isTrue_and (thn (ha pins s σ H Q I h) λc s1 e=>?_);cases c with
 | true=>exact isTrue_and_nil e
 | false=>exact e
def pV(ha:PT X a tA):PW X (.BoolOp .Or [a] pos) tA:=by
 intro wh pins s σ H Q I h;refine isTrue_or (thn (ha pins s σ H Q I h) λc s1 e=>?_);cases c with
 | false=>exact isTrue_or_nil e
 | true=>exact e
def zZ(ha:PT X a tA)(hb:PW X (.BoolOp .And (b::rest) pos) tB'):PW X (.BoolOp .And (a::b::rest) pos) (CF tA tB'):=by
 intro wh pins s σ H Q I h;refine isTrue_and (thn (ha pins s σ H _ I h) λc s1 ⟨H1,I1,q1⟩=>?_);cases c with
 | true=>exact hb wh pins s1 σ H1 Q I1 q1
 | false=>exact ⟨H1,I1,q1⟩
def kr(ha:PT X a tA)(hb:PW X (.BoolOp .Or (b::rest) pos) tB'):PW X (.BoolOp .Or (a::b::rest) pos) (tOr tA tB'):=by
 intro wh pins s σ H Q I h;refine isTrue_or (thn (ha pins s σ H _ I h) λc s1 ⟨H1,I1,q1⟩=>?_);cases c with
 | true=>exact ⟨H1,I1,q1⟩
 | false=>exact hb wh pins s1 σ H1 Q I1 q1
def Aa(ha:PT X a tA):PT X (.UnaryOp .Not a pos) (CG tA):=by
 intro pins s σ H Q I h;exact isTrue_not (ha pins s σ H (λc H1=>Q (!c) H1) I h)
def Bz(ta tb:TE):TE:=λσ H Q=>ta σ H λx H1=>∃c,x=.bl c/\if c=true then tb σ H1 Q else Q (.bl false) H1
def BA(ta:TE):TE:=λσ H Q=>ta σ H λx H1=>∃c,x=.bl c/\Q (.bl (!c)) H1
def Ab{op}{t:TE}(h:PE X a t):PE X (.BoolOp op [a] pos) t:=λpins s σ H Q I hw=>BoolOp_one (h pins s σ H Q I hw)
def Ac(ha:PE X a ta)(hb:PE X (.BoolOp .And (b::rest) pos) tb):PE X (.BoolOp .And (a::b::rest) pos) (Bz ta tb):=by
 intro pins s σ H Q I h;refine BoolOp_and (thn (ha pins s σ H _ I h) λv s1 ⟨x,H1,I1,r1,q1⟩=>?_);obtain ⟨c,rfl,q1⟩:=q1;cases r1;refine wpAny_truthy_bool ?_;cases c with
 | true=>exact hb pins s1 σ H1 Q I1 q1
 | false=>exact ⟨.bl false,H1,I1,rfl,q1⟩
def Ad(ha:PE X a ta):PE X (.UnaryOp .Not a pos) (BA ta):=by
 intro pins s σ H Q I h;refine UnaryOp_ (thn (ha pins s σ H _ I h) λv s1 ⟨x,H1,I1,r1,q1⟩=>?_);obtain ⟨c,rfl,q1⟩:=q1;cases r1;exact not_of (wpAny_truthy_bool {.bl (!c),H1,I1,rfl,q1})
def tIf(t:TT)(ta tb:TE):TE:=λσ H Q=>t σ H λc H1=>if c=true then ta σ H1 Q else tb σ H1 Q
def oq{c:Expr}(hc:PT X c tA)(ha:PE X a ta)(hb:PE X b tb):PE X (.IfExp c a b pos) (tIf tA ta tb):=by
 intro pins s σ H Q I h;refine wpAny_IfExp (thn (hc pins s σ H _ I h) λd s1 ⟨H1,I1,q1⟩=>?_);cases d with
 | true=>exact ha pins s1 σ H1 Q I1 q1
 | false=>exact hb pins s1 σ H1 Q I1 q1
end
def SqL(K:PySem.W.Frag)(H:Hp)(a:Addr)(xs:List V):Prop:=
 Rd H a (.lst xs) \/
  ∃(o:Obj) (its:Array Value) (n:Nat),K.lookup a=some o/\o.cls=.type "list"/\o.dict=none/\o.data=.seq its n/\its.size<=sizeLine/\aq xs its.toList
def SqT(K:PySem.W.Frag)(H:Hp)(a:Addr)(xs:List V):Prop:=
 Rd H a (.tup xs) \/
  ∃(o:Obj) (its:Array Value) (n:Nat),K.lookup a=some o/\o.cls=.type "tuple"/\o.data=.seq its n/\its.size<=sizeLine/\aq xs its.toList
def CH:Value->Option V
 | .none=>some .non
 | .bool b=>some (.bl b)
 | .int i _=>some (.int i)
 | .str x _=>some (.str x)
 | .bytes b _=>some (.byt b)
 | .float b _=>some (.flt b)
 | .ref a=>some (.ref a)
 | .type n=>some (.ty n)
 | _=>none
def av.abs{x:V}{u:Value}(r:av x u):CH u=some x:=by
 cases x with
 | non=>cases r;rfl
 | bl _=>cases r;rfl
 | int _=>obtain ⟨t,rfl⟩:=r;rfl
 | str _=>obtain ⟨t,rfl⟩:=r;rfl
 | byt _=>obtain ⟨t,rfl⟩:=r;rfl
 | flt _=>obtain ⟨t,rfl⟩:=r;rfl
 | ref _=>cases r;rfl
 | ty _=>cases r;rfl
def av.inj{x y:V}{u:Value}(r:av x u)(q:av y u):x=y:=Option.some.inj (r.abs.symm.trans q.abs)
def aq.inj:∀{xs ys:List V} {us:List Value},aq xs us->aq ys us->xs=ys
 | _,_,_,.nil,.nil=>rfl
 | _,_,_,.cons r t,.cons r' t'=>by rw[r.inj r',aq.inj t t']
section
variable {X:Cx} {pins:List (Addr×Obj)} {σ:St} {H:Hp} {s:Shared} {a:Addr} {xs ys:List V}
def SqL.of{K:PySem.W.Frag}(h:H a=some (.lst xs)):SqL K H a xs:=.inl (.inl h)
def SqT.of{K:PySem.W.Frag}(h:H a=some (.tup xs)):SqT K H a xs:=.inl (.inl h)
def Inv.list(I:Inv X pins σ H s)(h:SqL X.K H a xs):∃its:List Value,aq xs its/\PlainL s.heap a its.toArray/\xs.length<=sizeLine:=by
 rcases h with h | ⟨o,its,n,hk,hc,hd,hs,hz,r⟩
 ·obtain ⟨z,its,n,r,e⟩:=h.ok I.hok
  exact {its,r,{_,n,e,rfl,rfl,rfl},z}
 ·refine {its.toList,r,⟨o,n,I.kIn a o hk,hc,hd,by simpa using hs⟩,?_}
  have e:=r.length;simp only[length_toList] at e;omega
def Inv.tuple(I:Inv X pins σ H s)(h:SqT X.K H a xs):∃its:List Value,aq xs its/\IsTup s.heap a its.toArray/\xs.length<=sizeLine:=by
 rcases h with h | ⟨o,its,n,hk,hc,hs,hz,r⟩
 ·obtain ⟨z,its,r,p⟩:=h.ok I.hok
  exact ⟨its,r,p,z⟩
 ·refine {its.toList,r,⟨o,I.kIn a o hk,hc,n,by simpa using hs⟩,?_}
  have e:=r.length;simp only[length_toList] at e;omega
def Inv.list_inj(I:Inv X pins σ H s)(h:SqL X.K H a xs)(h':SqL X.K H a ys):xs=ys:=by
 obtain ⟨its,r,⟨o,n,e,_,_,d⟩,_⟩:=I.list h;obtain ⟨its',r',⟨o',n',e',_,_,d'⟩,_⟩:=I.list h';rw[e] at e';cases e';rw[d] at d';injection d' with d1 _;have:its=its':=by simpa using congrArg Array.toList d1
 subst this;exact r.inj r'
end
abbrev Cx.wish(X:Cx)(E:Value->Shared->Prop):Cx:={ X with xe:=E }
abbrev Cx.nox(X:Cx):Cx:=X.wish λ_ _=>False
def Cx.Ok.wish{X:Cx}(ok:X.Ok)(E:Value->Shared->Prop):(X.wish E).Ok:=
 ⟨ok.mod,ok.kind,ok.glob,ok.blt,ok.above,ok.inj,ok.has,ok.cab,ok.hd,ok.frames,ok.stk,ok.exf,ok.bs,ok.bsz,ok.noex,ok.exfs,ok.funs,ok.frf⟩
def Cx.Ok.unwish{X:Cx}{E:Value->Shared->Prop}(ok:(X.wish E).Ok):X.Ok:=
 ⟨ok.mod,ok.kind,ok.glob,ok.blt,ok.above,ok.inj,ok.has,ok.cab,ok.hd,ok.frames,ok.stk,ok.exf,ok.bs,ok.bsz,ok.noex,ok.exfs,ok.funs,ok.frf⟩
section
variable {X:Cx} {pins:List (Addr×Obj)} {σ:St} {H:Hp} {s:Shared} {E:Value->Shared->Prop}
def Inv.wish(I:Inv X pins σ H s)(E:Value->Shared->Prop):Inv (X.wish E) pins σ H s:=⟨I.ok.wish E,I.os,I.bare,I.base,I.loc,I.cell,I.free,I.freeC,I.pin,I.hok,I.len⟩
def Inv.unwish(I:Inv (X.wish E) pins σ H s):Inv X pins σ H s:=⟨I.ok.unwish,I.os,I.bare,I.base,I.loc,I.cell,I.free,I.freeC,I.pin,I.hok,I.len⟩
def SP.unwish{D:cR}{f:Flow}{s':Shared}(h:SP (X.wish E) pins D f s'):SP X pins D f s':=by
 cases f with
 | next=>obtain ⟨σ',H',I,q⟩:=h;exact ⟨σ',H',I.unwish,q⟩
 | brk=>obtain ⟨σ',H',I,q⟩:=h;exact ⟨σ',H',I.unwish,q⟩
 | cont=>obtain ⟨σ',H',I,q⟩:=h;exact ⟨σ',H',I.unwish,q⟩
 | ret u=>obtain ⟨v,σ',H',I,r,q⟩:=h;exact ⟨v,σ',H',I.unwish,r,q⟩
def PSs.nox{st:List Stmt}{t:TS}(h:PSs X.nox st t):PSs X st t:=λpins s σ H D I hw=>
 wpAny_mono (h pins s σ H D (I.wish _) hw) (λ_ _ q=>q.unwish) λ_ _ z=>False.elim z
end
section
variable {X:Cx} {st:Stmt} {rest:List Stmt} {t u:TS} {e:Expr} {te:TE} {pos:Pos}
def BB:TS:=λD σ H=>D.nx σ H
def cR.lp(D:cR)(P:St->Hp->Prop):cR:={ D with nx:=P,ct:=P,bk:=D.nx }
def cR.sq(D:cR)(u:TS):cR:={ D with nx:=u D }
def CI(t u:TS):TS:=λD σ H=>t (D.sq u) σ H
def aS:PSs X [] BB:=λ_ _ σ H _ I h=>wpAny_execs_nil ⟨σ,H,I,h⟩
def aj(h1:PS X st t)(h2:PSs X rest u):PSs X (st::rest) (CI t u):=by
 intro pins s σ H D I h;refine wpAny_execs_cons (thn (h1 pins s σ H { D with nx:=u D } I h) λf s1 q=>?_);cases f with
 | next=>
  obtain ⟨σ',H',I',q⟩:=q;exact h2 pins s1 σ' H' D I' q
 | ret v=>exact q
 | brk=>exact q
 | cont=>exact q
def ax(h1:PS X st t):PSs X [st] t:=by
 intro pins s σ H D I h;refine wpAny_execs_cons (thn (h1 pins s σ H D I h) λf s1 q=>?_);cases f with
 | next=>exact wpAny_execs_nil q
 | ret v=>exact q
 | brk=>exact q
 | cont=>exact q
def Inv.quiet{pins:List (Addr×Obj)}{σ:St}{H:Hp}{s:Shared}(I:Inv X pins σ H s):interactive X.env=false:=by simp[interactive,I.ok.kind]
def BC(te:TE):TS:=λD σ H=>te σ H λ_ H1=>D.nx σ H1
def kg(he:PE X e te)(hs:swapsWith e none pos.line X.env=pure false:=by rfl):PS X (.Expr e pos) (BC te):=by
 intro pins s σ H D I h;exact wpAny_Expr_any (thn (he pins s σ H _ I h) λv s1 ⟨x,H1,I1,r1,q1⟩=>⟨σ,H1,I1,q1⟩) I.quiet hs
def CJ(te:TE):TS:=λD σ H=>te σ H D.rt
def ku(he:PE X e te):PS X (.Return (some e) pos) (CJ te):=by
 intro pins s σ H D I h;exact wpAny_Return_some (thn (he pins s σ H _ I h) λv s1 ⟨x,H1,I1,r1,q1⟩=>⟨x,σ,H1,I1,r1,q1⟩)
def BD:TS:=λD _ H=>D.rt .non H
def wY:PS X (.Return none pos) BD:=λ_ _ σ H _ I h=>wpAny_Return_none ⟨.non,σ,H,I,rfl,h⟩
def CK(c:TT)(t u:TS):TS:=λD σ H=>c σ H λb H1=>if b=true then t D σ H1 else u D σ H1
def bU{c:Expr}{a b:List Stmt}{tc:TT}(hc:PT X c tc)(ha:PSs X a t)(hb:PSs X b u):PS X (.If c a b pos) (CK tc t u):=by
 intro pins s σ H D I h;refine wpAny_If (thn (hc pins s σ H _ I h) λd s1 ⟨H1,I1,q1⟩=>?_);cases d with
 | true=>exact ha pins s1 σ H1 D I1 q1
 | false=>exact hb pins s1 σ H1 D I1 q1
def Ae:TS:=λ_ _ _=>False
def bE:PS X st Ae:=λ_ _ _ _ _ _ h=>h.elim
end
abbrev TG:=V->St->Hp->(St->Hp->Prop)->Prop
abbrev TGs:=List V->St->Hp->(St->Hp->Prop)->Prop
def PG(X:Cx)(target:Expr)(t:TG):Prop:=
 ∀(pins:List (Addr×Obj)) (s:Shared) (σ:St) (H:Hp) (v:V) (u:Value) (Q:St->Hp->Prop),Inv X pins σ H s->av v u->t v σ H Q->
  wpAny (model X.prog X.w) X.A (assign target X.env u) (λ_ s'=>∃σ' H',Inv X pins σ' H' s'/\Q σ' H') X.xe s
def PGs(X:Cx)(ts:List Expr)(t:TGs):Prop:=
 ∀(pins:List (Addr×Obj)) (s:Shared) (σ:St) (H:Hp) (vs:List V) (us:List Value) (Q:St->Hp->Prop),Inv X pins σ H s->aq vs us->t vs σ H Q->
  wpAny (model X.prog X.w) X.A (assignInOrder ((assignEach ts X.env).map (·.2)) us) (λ_ s'=>∃σ' H',Inv X pins σ' H' s'/\Q σ' H') X.xe s
abbrev Af:=V->V->V->Hp->(Hp->Prop)->Prop
def BE(X:Cx)(t:Af):Prop:=
 ∀(pins:List (Addr×Obj)) (s:Shared) (σ:St) (H:Hp) (o i v:V) (ov iv u:Value) (Q:Hp->Prop),Inv X pins σ H s->av o ov->av i iv->av v u->t o i v H Q->
  wpAny (model X.prog X.w) X.A (setItem ov iv u) (λ_ s'=>∃H',Inv X pins σ H' s'/\Q H') X.xe s
abbrev TIp:=V->V->Hp->VK->Prop
def PIp(X:Cx)(op:Operator)(t:TIp):Prop:=
 ∀(pins:List (Addr×Obj)) (s:Shared) (σ:St) (H:Hp) (x y:V) (v u:Value) (Q:VK),Inv X pins σ H s->av x v->av y u->t x y H Q->
  wpAny (model X.prog X.w) X.A (inplaceOp op v u) (EP X pins σ Q) X.xe s
section
variable {X:Cx} {pos:Pos}
def rf(i:Nat):TG:=λv σ H Q=>Q (σ.set i (some v)) H
def nv{i:Nat}{x:Str}(hN:X.N.Nodup)(hi:X.N[i]?=some x)(hx:Loc X.env.scope x)(hf:X.fn x=true\/X.env.scope.names.lookup x=some .local:=by first | exact .inl rfl | exact .inr rfl | assumption):PG X (.Name x pos) (rf i):=by
 intro pins s σ H v u Q I r h;exact wpAny_assign_Name (cM I hN hi hx r (λs' I'=>{_,H,I',h}) hf)
inductive BF  (vs:List V) (σ:St) (H:Hp) (Q:St->Hp->Prop):Prop
 | mk :vs=[]->Q σ H->BF  vs σ H Q
inductive zt(t:TG)(u:TGs)(vs:List V)(σ:St)(H:Hp)(Q:St->Hp->Prop):Prop
 | mk (v:_) (r:_):vs=v::r->(t v σ H λσ' H'=>u r σ' H' Q)->zt t u vs σ H Q
def wZ:PGs X [] BF:=by
 intro pins s σ H vs us Q I r h;obtain ⟨e,h⟩:=h;subst e;cases r;exact assignInOrder_nil ⟨σ,H,I,h⟩
def kx{e:Expr}{es:List Expr}{t:TG}{u:TGs}(h1:PG X e t)(h2:PGs X es u)
  (hs:(assignEach (e::es) X.env).map (·.2)=assign e X.env::(assignEach es X.env).map (·.2):=by rfl):PGs X (e::es) (zt t u):=by
 intro pins s σ H vs us Q I r h;obtain ⟨v,vr,e1,h⟩:=h;subst e1;cases r with
 | cons r rr=>
  rw[hs];refine assignInOrder_cons (thn (h1 pins s σ H _ _ _ I r h) λ_ s1 ⟨σ1,H1,I1,q1⟩=>?_);exact h2 pins s1 σ1 H1 _ _ Q I1 rr q1
inductive Ag(K:PySem.W.Frag)(n:Nat)(t:TGs)(v:V)(σ:St)(H:Hp)(Q:St->Hp->Prop):Prop
 | mk (a:_) (xs:_):v=.ref a->SqT K H a xs->xs.length=n->t xs σ H Q->Ag K n t v σ H Q
def Ah{es:List Expr}{k:Nat}{t:TGs}{n:Nat}(hc:X.calm=true)(h:PGs X es t)
  (hn:(assignEach es X.env).length=n:=by rfl) (hst:(assignEach es X.env).findIdx? (·.1)=none:=by rfl):PG X (.Tuple es k pos) (Ag X.K n t):=by
 intro pins s σ H v u Q I r hw;obtain ⟨a,xs,e1,hq,hl,hw⟩:=hw;subst e1;cases r;obtain ⟨its,rv,ht,hz⟩:=I.tuple hq;refine assign_Tuple_tuple (I.ok.hd hc) ht (by simp[hn,<- hl,rv.length]) hst λh' hx=>?_;have I1:Inv X pins σ H { s with heap:=h' }:=I.kept (t':=s.toks) λb o e=>hx b o (Nat.ne_of_lt (lt_size e)) e;exact h pins _ σ H xs _ Q I1 (by simpa using rv) hw
def CL(to ti:TE)(t:Af):TG:=λv σ H Q=>to σ H λo H1=>ti σ H1 λi H2=>t o i v H2 λH3=>Q σ H3
def Ai{o i:Expr}{to ti:TE}{t:Af}(ho:PE X o to)(hi:PE X i ti)(hs:BE X t)
  (ha:∀v,assign (.Subscript o i pos) X.env v=(do
   let ov <- holding [v] (eval o X.env)
   let iv <- holding [v,ov] (eval i X.env)
   standAt pos
   holding [v,ov,iv] (setItem ov iv v)
   release [v,ov,iv] []):=by intro _;rfl):PG X (.Subscript o i pos) (CL to ti t):=by
 intro pins s σ H v u Q I r h;rw[ha];refine wpAny_bind (wpAny_holding (thn (ho pins s σ H _ I h) λov s1 ⟨x,H1,I1,r1,q1⟩=>?_));refine wpAny_bind (wpAny_holding (thn (hi pins s1 σ H1 _ I1 q1) λiv s2 ⟨y,H2,I2,r2,q2⟩=>?_));refine wpAny_bind (wpAny_standAt (wpAny_bind (wpAny_holding (thn (hs pins s2 σ H2 x y v ov iv u _ I2 r1 r2 r q2) λ_ s3 ⟨H3,I3,q3⟩=>?_))));exact wpAny_release ⟨σ,H3,I3,q3⟩
def Aj(te:TE)(g:TG):TS:=λD σ H=>te σ H λx H1=>g x σ H1 D.nx
def pW{tg e:Expr}{te:TE}{g:TG}(he:PE X e te)(hg:PG X tg g)(hs:swapsWithSole [tg] e pos.line X.env=pure false:=by rfl)(hw:swappedStores [tg] e X.env=pure none:=by rfl)
  (h1:(assignEach [tg] X.env).map (·.2)=[assign tg X.env]:=by rfl):PS X (.Assign [tg] e pos) (Aj te g):=by
 intro pins s σ H D I h;refine wpAny_Assign_stores (thn (he pins s σ H _ I h) λv s1 ⟨x,H1,I1,r1,q1⟩=>?_) hs hw;rw[h1];exact thn (hg pins s1 σ H1 x v _ I1 r1 q1) λ_ s2 q=>q
def kB{i:Nat}{x:Str}{e:Expr}{te:TE}{pos':Pos}(hN:X.N.Nodup)(hi:X.N[i]?=some x)(hx:Loc X.env.scope x)(he:PE X e te)(hs:swapsWith e (some (.Name x pos')) pos.line X.env=pure false:=by rfl)(hf:X.fn x=true\/X.env.scope.names.lookup x=some .local:=by first | exact .inl rfl | exact .inr rfl | assumption):
  PS X (.Assign [.Name x pos'] e pos) (Aj te (rf i)):=by
 intro pins s σ H D I h;refine wpAny_Assign_Name (thn (he pins s σ H _ I h) λv s1 ⟨y,H1,I1,r1,q1⟩=>?_) hs;exact cM I1 hN hi hx r1 (λs2 I2=>{_,H1,I2,q1}) hf
def CM(i j:Nat)(ta:TA):TS:=λD σ H=>ta σ H λvs H1=>∃v w,vs=[v,w]/\D.nx ((σ.set i (some v)).set j (some w)) H1
def pX{i j:Nat}{x y:Str}{a b:Expr}{ta:TA}{px py pt:Pos}{kt k2 pt2}(hc:X.calm=true)(hN:X.N.Nodup)(hi:X.N[i]?=some x)(hj:X.N[j]?=some y)(hij:i≠j)
  (hx:X.env.scope.names.lookup x=some .local) (hy:X.env.scope.names.lookup y=some .local) (ha:PA X [a,b] ta)
  (hw:swappedStores [.Tuple [.Name x px,.Name y py] kt pt] (.Tuple [a,b] k2 pt2) X.env=pure (some [x,y]))
  (hs:swapsWithSole [.Tuple [.Name x px,.Name y py] kt pt] (.Tuple [a,b] k2 pt2) pos.line X.env=pure false:=by rfl):
  PS X (.Assign [.Tuple [.Name x px,.Name y py] kt pt] (.Tuple [a,b] k2 pt2) pos) (CM i j ta):=by
 intro pins s σ H D I h;rw[exec_Assign_arm];refine wpAny_bind (wpAny_standAt ?_);rw[hs];refine wpAny_bind (wpAny_pure ?_);rw[if_neg (by decide)];refine wpAny_bind (Tuple_ (thn (ha _ pins s σ H _ I h) λus s1 ⟨vs,H1,I1,r1,q1⟩=>?_));obtain ⟨v,w,e1,q1⟩:=q1;subst e1;obtain ⟨u1,u2,rfl,rv,rw'⟩:∃u1 u2,us=[u1,u2]/\av v u1/\av w u2:=by
  cases r1 with
  | cons p q=>
   cases q with
   | cons p' q'=>
    cases q';exact {_,_,rfl,p,p'}
 refine wpAny_newObj_type ?_ (by show 2<=sizeLine;decide);have I2:Inv X pins σ H1 { s1 with heap:=s1.heap.push { cls:=.type "tuple",data:=.seq [u1,u2].toArray } }:=I1.kept (t':=s1.toks) λb o e=>get?_push_of_some _ e;rw[hw];refine wpAny_bind (wpAny_pure ?_);show wpAny (model X.prog X.w) X.A (do rule "assign.swapped-stores";let items <- unpackItems (.ref s1.heap.objs.size) 2 none;assignInOrder [λv=>bindName X.env y v,λv=>bindName X.env x v] items.reverse;pure Flow.next) _ _ _;refine wpAny_bind (wpAny_rule (wpAny_bind (unpackItems_tuple (items:=#[u1,u2]) (I.ok.hd hc) (IsTup.new s1.heap _) λh' hx'=>?_)))
 have I3:=I2.kept (h':=h') (t':=s1.toks) λb o e=>hx' b o (Nat.ne_of_lt (lt_size e)) e;show wpAny _ _ (assignInOrder [λv=>bindName X.env y v,λv=>bindName X.env x v] [u2,u1] >>= λ_=>pure Flow.next) _ _ _;refine wpAny_bind (assignInOrder_cons (wpAny_bindName (cM I3 hN hj (.inl hy) rw' (λs2 I4=>?_) (.inr hy))));refine assignInOrder_cons (wpAny_bindName (cM I4 hN hi (.inl hx) rv (λs3 I5=>assignInOrder_nil (wpAny_pure ?_)) (.inr hx)));rw[set_comm _ _ (Ne.symm hij)] at I5;exact {_,H1,I5,q1}
def CN(i:Nat)(te:TE)(ti:TIp):TS:=λD σ H=>∃x,σ[i]?=some (some x)/\te σ H λy H1=>ti x y H1 λz H2=>D.nx (σ.set i (some z)) H2
def Ak{i:Nat}{x:Str}{e:Expr}{te:TE}{op:Operator}{ti:TIp}{pos':Pos}(hN:X.N.Nodup)(hi:X.N[i]?=some x)(hx:Loc X.env.scope x)(he:PE X e te)(ho:PIp X op ti)(hf:X.fn x=true\/X.env.scope.names.lookup x=some .local:=by first | exact .inl rfl | exact .inr rfl | assumption):
  PS X (.AugAssign (.Name x pos') op e pos) (CN i te ti):=by
 intro pins s σ H D I h;obtain ⟨v,e1,h⟩:=h;obtain ⟨m,hn,hl⟩:=I.loc;have vis:Vis X.env.scope x:=by rcases hx with k | k;exact .inl k;exact .inr (.inl k)
 obtain ⟨u,r,l⟩:=hl i x v hi e1 vis;refine wpAny_AugAssign_Name ?_;have go:wpAny (model X.prog X.w) X.A (eval e X.env) (λw s₂=>wpAny (model X.prog X.w) X.A (inplaceOp op u w) (λr s₃=>wpAny (model X.prog X.w) X.A (storeName X.env x r) (λ_=>SP X pins D .next) X.xe s₃) X.xe s₂) X.xe s:=by
  refine thn (he pins s σ H _ I h) λw s1 ⟨y,H1,I1,r1,q1⟩=>?_;refine thn (ho pins s1 σ H1 v y u w _ I1 r r1 q1) λz s2 ⟨zv,H2,I2,r2,q2⟩=>?_;exact cM I2 hN hi hx r2 (λs3 I3=>{_,H2,I3,q2}) hf
 rcases l with ⟨hk,hm⟩ | ⟨hk,c,hc,hcell⟩
 ·exact wpAny_loadName_local I.ok.kind hk hn hm go
 ·rcases hk with hk | hk
  ·exact wpAny_loadName_cell I.ok.kind hk hc hcell go
  ·rcases hx with k | k
   ·have:X.env.scope.names.lookup x=some .free:=hk
    rw[k] at this;cases this
   ·have:X.env.scope.names.lookup x=some .free:=hk
    rw[k] at this;cases this
def ipI(f:Int->Int->Int):TIp:=λx y H Q=>∃i j,x=.int i/\y=.int j/\Q (.int (f i j)) H
def Al:PIp X .Add (ipI λi j=>i+j):=by
 intro pins s σ H x y v u Q I r1 r2 h;obtain ⟨i,j,e1,e2,q⟩:=h;subst e1;subst e2;obtain ⟨t,rfl⟩:=r1;obtain ⟨t',rfl⟩:=r2;exact iadd_int {.int _,H,I.tok _,{_,rfl},q}
end
section
variable {X:Cx} {pos:Pos}
def Am(c:TT)(tb:TS):TS:=λD σ H=>∃W:Nat->St->Hp->Prop,(∃m,W m σ H)/\∀m σ H,W m σ H->
 c σ H λb H1=>if b=true then ∃N:St->Hp->Prop,(∀σ' H',N σ' H'->∃m',m'<m/\W m' σ' H')/\tb { D with nx:=N,ct:=N,bk:=D.nx } σ H1 else D.nx σ H1
def ot{c:Expr}{body:List Stmt}{tc:TT}{tb:TS}(hp:PassesOwn (model X.prog X.w) X.A X.env X.xe)(hc:PT X c tc)(hb:PSs X body tb):PS X (.While c body [] pos) (Am tc tb):=by
 intro pins s σ H D I h;obtain ⟨W,⟨m0,w0⟩,turn⟩:=h;refine wpAny_While (codeAny_whileLoop (λn s'=>∃σ' H',Inv X pins σ' H' s'/\W n σ' H') ?_ m0 ⟨σ,H,I,w0⟩);rintro n s1 ⟨σ1,H1,I1,w1⟩;refine wpAny_passesOwn hp (thn (hc pins s1 σ1 H1 _ I1 (turn n σ1 H1 w1)) λb s2 ⟨H2,I2,q2⟩=>?_);cases b with
 | true=>
  obtain ⟨N,hN,q2⟩:=q2;rw[if_pos rfl];refine wpAny_passesOwn hp (thn (hb pins s2 σ1 H2 _ I2 q2) λf s3 q3=>?_);cases f with
  | next=>
   obtain ⟨σ3,H3,I3,n3⟩:=q3;obtain ⟨m',hm,w3⟩:=hN σ3 H3 n3;exact ⟨m',hm,σ3,H3,I3,w3⟩
  | cont=>
   obtain ⟨σ3,H3,I3,n3⟩:=q3;obtain ⟨m',hm,w3⟩:=hN σ3 H3 n3;exact ⟨m',hm,σ3,H3,I3,w3⟩
  | brk=>exact q3
  | ret v=>exact q3
 | false=>
  rw[if_neg Bool.false_ne_true];exact wpAny_execs_nil ⟨σ1,H2,I2,q2⟩
end
structure It where
 go:Nat->Hp->Prop
 yld:Nat->Hp->V->Hp->Prop
 stop:Nat->Hp->Prop
def eA(X:Cx)(pins:List (Addr×Obj))(H:Hp)(b:Addr):Prop:=
 H b=none/\b≠X.env.locals/\b∉X.fs/\(b∈X.ex\/X.s₀.heap.objs.size<=b)/\(∀x c,X.env.cells.lookup x=some c->c≠b)/\∀p∈X.pn++pins,p.1≠b
def Inv.fpOk{X:Cx}{pins:List (Addr×Obj)}{σ:St}{H H':Hp}{s:Shared}{b:Addr}(I:Inv X pins σ H s)(hb:s.heap.objs.size<=b)(hn:H' b=none):eA X pins H' b:=by
 refine {hn,ne_of_gt (Nat.lt_of_lt_of_le I.lt hb),I.nofs hb,.inr (Nat.le_trans I.sz hb),λx c e z=>?_,λp hp z=>?_}
 ·obtain ⟨v,q⟩:=I.cell x c e
  exact absurd (Nat.lt_of_lt_of_le q.lt (by rw[z];exact hb)) (lt_irrefl _)
 ·exact absurd (Nat.lt_of_lt_of_le (lt_size (I.pin p hp).1) (by rw[z];exact hb)) (lt_irrefl _)
structure sY(P:Program)(w:World)(K:PySem.W.Frag)(tg:Expr)(J:It)(fp:List Addr)(it:Addr)(tn:Nat->Heap->Prop):Prop where
 mem:it∈fp
 obj:∀i h,tn i h->∀b∈fp,∃o,h.get? b=some o/\∀v,o.data≠.cell v
 keep:∀i h h',tn i h->(∀b∈fp,∀o,h.get? b=some o->h'.get? b=some o)->tn i h'
 item:∀(X:Cx),X.prog=P->X.w=w->X.K=K->X.calm=true->∀(i:Nat) (pins:List (Addr×Obj)) (s:Shared) (σ:St) (H:Hp) (E:Value->Shared->Prop),Inv X pins σ H s->(∀b∈fp,eA X pins H b)->tn i s.heap->J.go i H->
  wpAny (model P w) X.A (pyNext (.ref it)) (λr s1=>∃u,r=some u /\
   wpAny (model P w) X.A (letOwnedTupleGo tg (.ref it) u) (λ_ s2=>∃x H',Inv X pins σ H' s2/\av x u/\J.yld i H x H'/\tn (i+1) s2.heap/\∀b∈fp,H' b=none) E s1) E s
 done:∀(X:Cx),X.prog=P->X.w=w->X.K=K->X.calm=true->∀(i:Nat) (pins:List (Addr×Obj)) (s:Shared) (σ:St) (H:Hp) (E:Value->Shared->Prop),Inv X pins σ H s->(∀b∈fp,eA X pins H b)->tn i s.heap->J.stop i H->
  wpAny (model P w) X.A (pyNext (.ref it)) (λr s1=>r=none/\Inv X pins σ H s1) E s
 self:∀(A:Around) (i:Nat) (s:Shared) (Q:Value->Shared->Prop) (E:Value->Shared->Prop),tn i s.heap->Q (.ref it) s->wpAny (model P w) A (pyIter (.ref it)) Q E s
abbrev TI:=St->Hp->(It->Hp->Prop)->Prop
def PIE(X:Cx)(pins:List (Addr×Obj))(σ:St)(tg:Expr)(R:It->Hp->Prop)(itv:Value)(s2:Shared):Prop:=
 ∃(it:Addr) (fp:List Addr) (tn:Nat->Heap->Prop) (J:It) (H':Hp),itv=.ref it/\Inv X pins σ H' s2/\sY X.prog X.w X.K tg J fp it tn/\tn 0 s2.heap/\(∀b∈fp,eA X pins H' b)/\R J H'
def PI(X:Cx)(tg iter:Expr)(wi:TI):Prop:=
 ∀(pins:List (Addr×Obj)) (s:Shared) (σ:St) (H:Hp) (R:It->Hp->Prop),Inv X pins σ H s->wi σ H R->
  wpAny (model X.prog X.w) X.A (eval iter X.env) (λv s1=>wpAny (model X.prog X.w) X.A (pyIter v) (PIE X pins σ tg R) X.xe s1) X.xe s
def zu{M:Model}{A:Around}{E:Value->Shared->Prop}{s:Shared}{tg:Expr}{it:Addr}{u:Value}{o:Obj}{n:String}{vs:Array Value}{Q:Unit->Shared->Prop}(ho:s.heap.get? it=some o)(hc:o.cls=.type n)(hd:o.data=.fields vs)
  (hn:["enumerate", "zip", "dict_itemiterator", "dict_reverseitemiterator", "odict_iterator", "itertools.zip_longest", "itertools.pairwise"].contains n=false) (hQ:Q Unit.unit s):wpAny M A (letOwnedTupleGo tg (.ref it) u) Q E s:=by
 unfold letOwnedTupleGo;cases tg<;>first
  | exact wpAny_pure hQ
  | (cases u<;>first
    | exact wpAny_pure hQ
    | (refine wpAny_bind (wpAny_load ho ?_)
       rw[hc,hd];show wpAny M A (if (["enumerate", "zip", "dict_itemiterator", "dict_reverseitemiterator", "odict_iterator", "itertools.zip_longest", "itertools.pairwise"].contains n&&vs[0]?==some (rawInt _))=true then _ else _) Q E s;rw[if_neg (by intro h;rw[hn,Bool.false_and] at h;cases h)];exact wpAny_pure hQ))
def Itl(K:PySem.W.Frag)(a:Addr):It:=
 ⟨λi H=>∃xs x,SqL K H a xs/\xs[i]?=some x,λi H x H'=>H'=H/\∀xs,SqL K H a xs->xs[i]?=some x,λi H=>∃xs,SqL K H a xs/\xs.length<=i⟩
def Itr(lo:Int)(n:Nat):It:=⟨λi _=>i<n,λi H x H'=>H'=H/\x=.int (lo+i),λi _=>n<=i⟩
def sZ{P:Program}{w:World}{K:PySem.W.Frag}{tg:Expr}(a it:Addr):sY P w K tg (Itl K a) [it] it (λi h=>h.IsListIter it a i) where
 mem:=by simp
 obj:=λi h st b hb=>by
  have e:b=it:=by simpa using hb
  subst e;obtain ⟨o,e,c,d⟩:=st;exact ⟨o,e,λv z=>by rw[d] at z;cases z⟩
 keep:=λi h h' st k=>st.at λo e=>k it (by simp) o e
 item:=by
  intro X hP hw hK hc i pins s σ H E I hf st hg;subst hP hw hK;obtain ⟨xs,x,hq,hx⟩:=hg;obtain ⟨its,rv,p,hz⟩:=I.list hq;obtain ⟨u,hu,ru⟩:=rv.get hx;obtain ⟨f0,f1,f2,f3,f4,f5⟩:=hf it (by simp);refine wpAny_pyNext_list_item st p.isList (x:=u) (by simpa using hu) λh' st' sb=>?_;have I1:Inv X pins σ H { s with heap:=h' }:=I.turned (t':=s.toks) (λb o hb e=>(sb.2 b hb).trans e) f0 f1 f3 f4 f5;obtain ⟨o,e,c,d⟩:=id st';exact ⟨u,rfl,zu (s:={ s with heap:=h' }) e c d (by decide) ⟨x,H,I1,ru,⟨rfl,λys hy=>by rw[I.list_inj hy hq];exact hx⟩,st',λb hb=>(hf b hb).1⟩⟩
 done:=by
  intro X hP hw hK hc i pins s σ H E I hf st hg;subst hP hw hK;obtain ⟨xs,hq,hx⟩:=hg;obtain ⟨its,rv,p,hz⟩:=I.list hq;obtain ⟨f0,f1,f2,f3,f4,f5⟩:=hf it (by simp);have hl:=rv.length;exact wpAny_pyNext_list_end (I.ok.hd hc) st p.isList (by simp;omega) λh' eb=>⟨rfl,I.turned (t':=s.toks) (λb o hb e=>eb b o hb e) f0 f1 f3 f4 f5⟩
 self:=λ_ _ _ _ _ st h=>wpAny_pyIter_listiter st h
def pY{P:Program}{w:World}{K:PySem.W.Frag}{tg:Expr}(it:Addr)(lo:Int)(n:Nat):sY P w K tg (Itr lo n) [it] it (λi h=>IsRangeIter h it (lo+(i:Nat)*1) ((n:Int)-(i:Nat)) 1) where
 mem:=by simp
 obj:=λi h st b hb=>by
  have e:b=it:=by simpa using hb
  subst e;exact ⟨_,st,λv z=>by
   have z':Data.fields _=Data.cell v:=z;cases z'⟩
 keep:=λi h h' st k=>k it (by simp) _ st
 item:=by
  intro X hP hw hK hc i pins s σ H E I hf st hg;subst hP hw hK;obtain ⟨f0,f1,f2,f3,f4,f5⟩:=hf it (by simp);have W:=Walks.range (prog:=X.prog) (w:=X.w) (I.ok.hd hc) it lo 1 n;refine W.item i s _ _ hg st λv h' tk hv st' kk=>?_;obtain ⟨t,rfl⟩:=hv;have I1:Inv X pins σ H { s with heap:=h',toks:=tk }:=I.turned (λb o hb e=>kk b o (by simpa using hb) e) f0 f1 f3 f4 f5;refine {_,rfl,zu (s:={ s with heap:=h',toks:=tk }) (n := "range_iterator") st' rfl rfl (by decide) {.int (lo+i),H,I1,{t,?_},⟨rfl,rfl⟩,st',λb hb=>(hf b hb).1}};rw[Int.mul_one]
 done:=by
  intro X hP hw hK hc i pins s σ H E I hf st hg;subst hP hw hK;obtain ⟨f0,f1,f2,f3,f4,f5⟩:=hf it (by simp);exact wpAny_pyNext_range_end (I.ok.hd hc) st (by have:n<=i:=hg;omega) λh' eb=>⟨rfl,I.turned (t':=s.toks) (λb o hb e=>eb b o hb e) f0 f1 f3 f4 f5⟩
 self:=λ_ _ _ _ _ st h=>wpAny_pyIter_rangeiter st h
section
variable {X:Cx} {tg:Expr}
inductive iLs(K:PySem.W.Frag)(x:V)(H:Hp)(R:It->Hp->Prop):Prop
 | mk (a:_):x=.ref a->(∃xs,SqL K H a xs)->R (Itl K a) H->iLs K x H R
def zw(K:PySem.W.Frag)(tl:TE):TI:=λσ H R=>tl σ H λx H1=>iLs K x H1 R
def w5{l:Expr}{tl:TE}(hl:PE X l tl):PI X tg l (zw X.K tl):=by
 intro pins s σ H R I h;refine thn (hl pins s σ H _ I h) λv s1 ⟨x,H1,I1,r1,q1⟩=>?_;obtain ⟨a,e,⟨xs,hq⟩,q⟩:=q1;subst e;cases r1;obtain ⟨its,rv,p,hz⟩:=I1.list hq;refine wpAny_pyIter_list p.isList ?_;refine {s1.heap.objs.size,[s1.heap.objs.size],_,_,H1,rfl,I1.kept (t':=s1.toks) λb o e=>get?_push_of_some _ e,sZ a _,{_,get?_push_size _ rfl,rfl,rfl},λb hb=>?_,q};have e:b=s1.heap.objs.size:=by simpa using hb
 subst e;exact I1.fpOk (Nat.le_refl _) (I1.hok.fresh (Nat.le_refl _))
def ou{pins:List (Addr×Obj)}{σ:St}{H:Hp}{s:Shared}{R:It->Hp->Prop}{E:Value->Shared->Prop}{lo hi:Int}{t u v:Tok}{tk:Nat}(I:Inv X pins σ H s)(h1:-(2^62)<=lo)(h2:lo<2^62)(h3:-(2^62)<=hi)(h4:hi<2^62)
  (q:R (Itr lo (hi-lo).toNat) H):wpAny (model X.prog X.w) X.A (pyIter (.ref s.heap.objs.size)) (PIE X pins σ tg R) E { s with heap:=s.heap.push { cls:=.type "range",data:=.fields #[.int lo t,.int hi u,.int 1 v] },toks:=tk }:=by
 refine wpAny_pyIter_range (IsRange.new ..) (small_one h1 h2 h3 h4) ?_;have I1:Inv X pins σ H { s with heap:=s.heap.push { cls:=.type "range",data:=.fields #[.int lo t,.int hi u,.int 1 v] },toks:=tk }:=I.kept λb o e=>get?_push_of_some _ e;refine ⟨(s.heap.push { cls:=.type "range",data:=.fields #[.int lo t,.int hi u,.int 1 v] }).objs.size,[(s.heap.push { cls:=.type "range",data:=.fields #[.int lo t,.int hi u,.int 1 v] }).objs.size],_,_,H,rfl,
  I1.kept (t':=tk) λb o e=>get?_push_of_some _ e,pY _ lo (hi-lo).toNat,?_,λb hb=>?_,q⟩
 ·have e1:lo+((0:Nat):Int)*1=lo:=by simp
  have e2:(((hi-lo).toNat:Nat):Int)-((0:Nat):Int)=Builtin.Range.rangeSize lo hi 1:=by rw[rangeSize_one];split<;>omega
  show IsRangeIter _ _ (lo+((0:Nat):Int)*1) ((((hi-lo).toNat:Nat):Int)-((0:Nat):Int)) 1;rw[e1,e2];exact get?_push_size _ rfl
 ·have e:b=(s.heap.push { cls:=.type "range",data:=.fields #[.int lo t,.int hi u,.int 1 v] }).objs.size:=by simpa using hb
  subst e;exact I1.fpOk (Nat.le_refl _) (I1.hok.fresh (Nat.le_refl _))
inductive iR1(vs:List V)(H:Hp)(R:It->Hp->Prop):Prop
 | mk (j:Int):vs=[.int j]->-(2^62)<=j->j<2^62->R (Itr 0 j.toNat) H->iR1 vs H R
def BG(ta:TA):TI:=λσ H R=>ta σ H λvs H1=>iR1 vs H1 R
def BH(ta:TA):TI:=λσ H R=>ta σ H λvs H1=>∃i j:Int,vs=[.int i,.int j]/\(-(2^62)<=i/\i<2^62/\-(2^62)<=j/\j<2^62)/\R (Itr i (j-i).toNat) H1
def tf {a:Expr} {ta:TA} {p pos:Pos} (hg:Gl X "range") (hm:X.mg "range"=none) (ha:PA X [a] ta) (hs:starEach [a] X.env=[(false,eval a X.env)]:=by rfl):PI X tg (.Call (.Name "range" p) [a] [] pos) (BG ta):=by
 intro pins s σ H R I h;refine Call_ (du I hg hm boot_range (PyProof.Rows.callWith_type1 (thn (ha pos pins s σ H _ I h) λus s1 ⟨vs,H1,I1,r1,q1⟩=>?_) hs rfl));obtain ⟨j,e,q1,q2,q⟩:=q1;subst e;cases r1 with
 | cons r rr=>
  cases rr;obtain ⟨t,rfl⟩:=r;exact call_range_1 (ou I1 () () q1 q2 (by simpa using q))
def tj {a b:Expr} {ta:TA} {p pos:Pos} (hg:Gl X "range") (hm:X.mg "range"=none) (ha:PA X [a,b] ta) (hs:starEach [a,b] X.env=[(false,eval a X.env),(false,eval b X.env)]:=by rfl) (hs2:starEach [b] X.env=[(false,eval b X.env)]:=by rfl):
  PI X tg (.Call (.Name "range" p) [a,b] [] pos) (BH ta):=by
 intro pins s σ H R I h;refine Call_ (du I hg hm boot_range (PyProof.Rows.callWith_type1 (thn (ha pos pins s σ H _ I h) λus s1 ⟨vs,H1,I1,r1,q1⟩=>?_) (by rw[hs,hs2]) (by rw[hs2];rfl)));obtain ⟨i,j,e,⟨q1,q2,q3,q4⟩,q⟩:=q1;subst e;cases r1 with
 | cons r rr=>
  cases rr with
  | cons r' rr=>
   cases rr;obtain ⟨t,rfl⟩:=r;obtain ⟨t',rfl⟩:=r';exact call_range_2 (ou I1 q1 q2 q3 q4 q)
def CO(wi:TI)(g:TG)(tb:TS):TS:=λD σ H=>wi σ H λJ H1=>∃W:Nat->Nat->St->Hp->Prop,(∃m,W 0 m σ H1)/\∀i m σ H,W i m σ H->
 (J.stop i H/\D.nx σ H)\/(J.go i H/\∃N:St->Hp->Prop,(∀σ' H',N σ' H'->∃m',m'<m/\W (i+1) m' σ' H')/\∀x H',J.yld i H x H'->g x σ H' λσ2 H2=>tb { D with nx:=N,ct:=N,bk:=D.nx } σ2 H2)
def kD(fp:List Addr)(h:Heap):List (Addr×Obj):=fp.filterMap λb=>(h.get? b).map λo=>(b,o)
def fj{fp:List Addr}{h:Heap}{b:Addr}{o:Obj}(hb:b∈fp)(e:h.get? b=some o):(b,o)∈kD fp h:=List.mem_filterMap.mpr ⟨b,hb,by rw[e];rfl⟩
def tp{fp:List Addr}{h:Heap}{p:Addr×Obj}(hp:p∈kD fp h):p.1∈fp/\h.get? p.1=some p.2:=by
 obtain ⟨b,hb,e⟩:=List.mem_filterMap.mp hp;cases q:h.get? b with
 | none=>rw[q] at e;cases e
 | some o=>
  rw[q] at e;have e':(b,o)=p:=Option.some.inj e;subst e';exact ⟨hb,q⟩
def Inv.pinned{pins:List (Addr×Obj)}{σ:St}{H:Hp}{s:Shared}{fp:List Addr}(I:Inv X pins σ H s)(hf:∀b∈fp,eA X pins H b)(ho:∀b∈fp,∃o,s.heap.get? b=some o/\∀v,o.data≠.cell v):Inv X (pins++kD fp s.heap) σ H s:=
 I.pins_of λp hp=>(mem_append.mp hp).elim (λz=>I.pin p (mem_append_right _ z)) λz=>by
  obtain ⟨hb,e⟩:=tp z;obtain ⟨f0,f1,f2,_⟩:=hf p.1 hb;obtain ⟨o,e',d⟩:=ho p.1 hb;rw[e] at e';cases e';exact ⟨e,f0,f1,f2,d⟩
def Inv.unpinned{pins pl:List (Addr×Obj)}{σ:St}{H:Hp}{s:Shared}(I:Inv X (pins++pl) σ H s):Inv X pins σ H s:=I.pins_of λp hp=>I.pin p (mem_append_right _ (mem_append_left _ hp))
def kI{iter:Expr}{body:List Stmt}{wi:TI}{g:TG}{tb:TS}{pos:Pos}(hp:PassesOwn (model X.prog X.w) X.A X.env X.xe)(hc:X.calm=true)(hi:PI X tg iter wi)(hg:PG X tg g)(hb:PSs X body tb)
  (hs:∀x,foldedSetIterable iter X.env x=pure x:=by intro _;rfl):PS X (.For tg iter body [] pos) (CO wi g tb):=by
 intro pins s σ H D I h;refine wpAny_For (thn (hi pins s σ H _ I h) λv s1 h1=>thn h1 λitv s2 h2=>?_) hs;obtain ⟨it,fp,tn,J,H2,e,I2,T,st2,f2,W,⟨m0,w0⟩,turn⟩:=h2;subst e;have stat:∀{H':Hp},(∀b∈fp,H' b=none)->∀b∈fp,eA X pins H' b:=λhn b hb=>⟨hn b hb,(f2 b hb).2⟩;refine codeAny_forLoop_any (λn s'=>∃i σ' H',Inv X pins σ' H' s'/\tn i s'.heap/\(∀b∈fp,H' b=none)/\W i n σ' H') ?_ m0 {0,σ,H2,I2,st2,λb hb=>(f2 b hb).1,w0};rintro n s3 ⟨i,σ3,H3,I3,st3,fr3,w3⟩;rcases turn i n σ3 H3 w3 with ⟨stop,qn⟩ | ⟨go,N,hN,step⟩
 ·refine wpAny_passesOwn hp (thn (T.done X rfl rfl rfl hc i pins s3 σ3 H3 X.xe I3 (stat fr3) st3 stop) λr s4 ⟨hr,I4⟩=>?_)
  subst hr;exact wpAny_execs_nil ⟨σ3,H3,I4,qn⟩
 ·refine wpAny_passesOwn hp (thn (T.item X rfl rfl rfl hc i pins s3 σ3 H3 X.xe I3 (stat fr3) st3 go) λr s4 ⟨u,hr,h4⟩=>?_)
  subst hr;refine wpAny_passesOwn hp (thn h4 λ_ s5 ⟨x,H5,I5,r5,y5,st5,fr5⟩=>?_);have I5':=I5.pinned (stat fr5) (T.obj _ _ st5);refine wpAny_passesOwn hp (thn (hg _ s5 σ3 H5 x u _ I5' r5 (step x H5 y5)) λ_ s6 ⟨σ6,H6,I6,q6⟩=>?_);refine wpAny_passesOwn hp (thn (hb _ s6 σ6 H6 _ I6 q6) λf s7 q7=>?_);have again:∀{σ7:St} {H7:Hp},Inv X (pins++kD fp s5.heap) σ7 H7 s7->N σ7 H7->∃m,m<n/\∃i σ' H',Inv X pins σ' H' s7/\tn i s7.heap/\(∀b∈fp,H' b=none)/\W i m σ' H':=λ{σ7 H7} I7 n7=>by
   obtain ⟨m',hm,w7⟩:=hN σ7 H7 n7;refine {m',hm,i+1,σ7,H7,I7.unpinned,T.keep _ _ _ st5 λb hb o e=>(I7.pin (b,o) (mem_append_right _ (mem_append_right _ (fj hb e)))).1,λb hb=>?_,w7};obtain ⟨o,e,d⟩:=T.obj _ _ st5 b hb;exact (I7.pin (b,o) (mem_append_right _ (mem_append_right _ (fj hb e)))).2.1
  cases f with
  | next=>obtain ⟨σ7,H7,I7,n7⟩:=q7;exact again I7 n7
  | cont=>obtain ⟨σ7,H7,I7,n7⟩:=q7;exact again I7 n7
  | brk=>obtain ⟨σ7,H7,I7,q7⟩:=q7;exact ⟨σ7,H7,I7.unpinned,q7⟩
  | ret v=>obtain ⟨x7,σ7,H7,I7,r7,q7⟩:=q7;exact ⟨x7,σ7,H7,I7.unpinned,r7,q7⟩
end
def eK{K:PySem.W.Frag}{a:Addr}{xs:List V}{g:TG}{tb:TS}{D:cR}{σ:St}{H:Hp}(Pv:Nat->St->Hp->Prop)(h0:Pv 0 σ H)(hl:∀i σ H,i<=xs.length->Pv i σ H->SqL K H a xs)
  (hs:∀i x σ H,xs[i]?=some x->Pv i σ H->g x σ H λσ2 H2=>tb (D.lp (Pv (i+1))) σ2 H2) (hd:∀σ H,Pv xs.length σ H->D.nx σ H):
  ∃W:Nat->Nat->St->Hp->Prop,(∃m,W 0 m σ H)/\∀i m σ H,W i m σ H->
   ((Itl K a).stop i H/\D.nx σ H)\/((Itl K a).go i H/\∃N:St->Hp->Prop,(∀σ' H',N σ' H'->∃m',m'<m/\W (i+1) m' σ' H')/\∀x H',(Itl K a).yld i H x H'->g x σ H' λσ2 H2=>tb { D with nx:=N,ct:=N,bk:=D.nx } σ2 H2):=by
 refine {λi m σ H=>m=xs.length-i/\i<=xs.length/\Pv i σ H,⟨xs.length,by simp,zero_le _,h0⟩,?_};rintro i m σ H ⟨rfl,hi,p⟩;have q:=hl i σ H hi p
 by_cases hlt:i<xs.length
 ·refine .inr {⟨xs,xs[i],q,by simp[hlt]⟩,Pv (i+1),λσ' H' p'=>{xs.length-(i+1),(),rfl,hlt,p'},λx H' y=>?_}
  obtain ⟨e,y⟩:=y;subst e;exact hs i x σ _ (y xs q) p
 ·have e:i=xs.length:=()
  subst e;exact .inl {{xs,q,Nat.le_refl _},hd σ H p}
def ce{lo:Int}{n:Nat}{g:TG}{tb:TS}{D:cR}{σ:St}{H:Hp}(Pv:Nat->St->Hp->Prop)(h0:Pv 0 σ H)
  (hs:∀i σ H,i<n->Pv i σ H->g (.int (lo+i)) σ H λσ2 H2=>tb (D.lp (Pv (i+1))) σ2 H2) (hd:∀σ H,Pv n σ H->D.nx σ H):
  ∃W:Nat->Nat->St->Hp->Prop,(∃m,W 0 m σ H)/\∀i m σ H,W i m σ H->
   ((Itr lo n).stop i H/\D.nx σ H)\/((Itr lo n).go i H/\∃N:St->Hp->Prop,(∀σ' H',N σ' H'->∃m',m'<m/\W (i+1) m' σ' H')/\∀x H',(Itr lo n).yld i H x H'->g x σ H' λσ2 H2=>tb { D with nx:=N,ct:=N,bk:=D.nx } σ2 H2):=by
 refine {λi m σ H=>m=n-i/\i<=n/\Pv i σ H,⟨n,by simp,zero_le _,h0⟩,?_};rintro i m σ H ⟨rfl,hi,p⟩
 by_cases hlt:i<n
 ·refine .inr {hlt,Pv (i+1),λσ' H' p'=>{n-(i+1),(),rfl,hlt,p'},λx H' y=>?_}
  obtain ⟨e,y⟩:=y;subst e y;exact hs i σ _ hlt p
 ·have e:i=n:=()
  subst e;exact .inl {Nat.le_refl _,hd σ H p}
abbrev R2:=V->V->Hp->VK->Prop
def OpR(X:Cx)(f:Value->Value->Sem Value)(r:R2):Prop:=
 ∀(pins:List (Addr×Obj)) (s:Shared) (σ:St) (H:Hp) (x y:V) (v u:Value) (Q:VK),Inv X pins σ H s->av x v->av y u->r x y H Q->
  wpAny (model X.prog X.w) X.A (f v u) (EP X pins σ Q) X.xe s
def UnR(X:Cx)(f:Value->Sem Value)(r:V->Hp->VK->Prop):Prop:=
 ∀(pins:List (Addr×Obj)) (s:Shared) (σ:St) (H:Hp) (x:V) (v:Value) (Q:VK),Inv X pins σ H s->av x v->r x H Q->
  wpAny (model X.prog X.w) X.A (f v) (EP X pins σ Q) X.xe s
def aV(X:Cx)(f:Value)(r:List V->Hp->VK->Prop):Prop:=
 ∀(pins:List (Addr×Obj)) (s:Shared) (σ:St) (H:Hp) (xs:List V) (us:List Value) (Q:VK),Inv X pins σ H s->aq xs us->r xs H Q->
  wpAny (model X.prog X.w) X.A (call f us) (EP X pins σ Q) X.xe s
def CP(X:Cx)(r:V->Hp->(Bool->Hp->Prop)->Prop):Prop:=
 ∀(pins:List (Addr×Obj)) (s:Shared) (σ:St) (H:Hp) (x:V) (v:Value) (Q:Bool->Hp->Prop),Inv X pins σ H s->av x v->r x H Q->
  wpAny (model X.prog X.w) X.A (truthy v) (TP X pins σ Q) X.xe s
def tOp(r:R2)(ta tb:TE):TE:=λσ H Q=>ta σ H λx H1=>tb σ H1 λy H2=>r x y H2 Q
def tUn(r:V->Hp->VK->Prop)(ta:TE):TE:=λσ H Q=>ta σ H λx H1=>r x H1 Q
inductive rI(C:Int->Int->Prop)(g:Int->Int->V)(x y:V)(H:Hp)(Q:VK):Prop
 | mk (i:_) (j:_):x=.int i->y=.int j->C i j->Q (g i j) H->rI C g x y H Q
inductive rI0(g:Int->Int->V)(x y:V)(H:Hp)(Q:VK):Prop
 | mk (i:_) (j:_):x=.int i->y=.int j->Q (g i j) H->rI0 g x y H Q
inductive rU(g:Int->V)(x:V)(H:Hp)(Q:VK):Prop
 | mk (i:_):x=.int i->Q (g i) H->rU g x H Q
section
variable {X:Cx} {a b c:Expr} {ta tb tc:TE} {pos:Pos}
def An(ha:PE X a ta)(hb:PE X b tb){pins:List (Addr×Obj)}{s:Shared}{σ:St}{H:Hp}{R:V->V->Hp->Prop}(I:Inv X pins σ H s)
  (h:ta σ H λx H1=>tb σ H1 λy H2=>R x y H2) {Q:Value->Shared->Prop} {f:Value->Value->Sem Value}
  (hf:∀v u s2 x y H2,Inv X pins σ H2 s2->av x v->av y u->R x y H2->wpAny (model X.prog X.w) X.A (f v u) Q X.xe s2):
  wpAny (model X.prog X.w) X.A (eval a X.env) (λv s₁=>wpAny (model X.prog X.w) X.A (eval b X.env) (λu s₂=>wpAny (model X.prog X.w) X.A (f v u) Q X.xe s₂) X.xe s₁) X.xe s:=by
 refine thn (ha pins s σ H _ I h) λv s1 ⟨x,H1,I1,r1,q1⟩=>?_;refine thn (hb pins s1 σ H1 _ I1 q1) λu s2 ⟨y,H2,I2,r2,q2⟩=>?_;exact hf v u s2 x y H2 I2 r1 r2 q2
def fJ{op:Operator}{r:R2}(ho:OpR X (binaryOp op) r)(ha:PE X a ta)(hb:PE X b tb):PE X (.BinOp a op b pos) (tOp r ta tb):=by
 intro pins s σ H Q I h;exact wpAny_BinOp (An ha hb I h λv u s2 x y H2 I2 rx ry q=>ho pins s2 σ H2 x y v u Q I2 rx ry q)
def BI{op:UnaryOp}{r:V->Hp->VK->Prop}(ho:UnR X (unaryOp op) r)(ha:PE X a ta):PE X (.UnaryOp op a pos) (tUn r ta):=by
 intro pins s σ H Q I h;exact UnaryOp_ (thn (ha pins s σ H _ I h) λv s1 ⟨x,H1,I1,r1,q1⟩=>ho pins s1 σ H1 x v Q I1 r1 q1)
def opI{f:Value->Value->Sem Value}{C:Int->Int->Prop}{g:Int->Int->Int}
  (rule:∀(i j:Int) (t u:Tok) (s:Shared) (Q:Value->Shared->Prop) (E:Value->Shared->Prop),C i j->Q (.int (g i j) s.toks) { s with toks:=s.toks+1 }->wpAny (model X.prog X.w) X.A (f (.int i t) (.int j u)) Q E s):
  OpR X f (rI C λi j=>.int (g i j)):=by
 intro pins s σ H x y v u Q I rx ry h;obtain ⟨i,j,rfl,rfl,hc,q⟩:=h;obtain ⟨t,rfl⟩:=rx;obtain ⟨t',rfl⟩:=ry;exact rule i j t t' s _ _ hc {.int (g i j),H,I.tok _,{_,rfl},q}
def BJ{f:Value->Value->Sem Value}{g:Int->Int->Int}
  (rule:∀(i j:Int) (t u:Tok) (s:Shared) (Q:Value->Shared->Prop) (E:Value->Shared->Prop),Q (.int (g i j) s.toks) { s with toks:=s.toks+1 }->wpAny (model X.prog X.w) X.A (f (.int i t) (.int j u)) Q E s):
  OpR X f (rI0 λi j=>.int (g i j)):=by
 intro pins s σ H x y v u Q I rx ry h;obtain ⟨i,j,rfl,rfl,q⟩:=h;obtain ⟨t,rfl⟩:=rx;obtain ⟨t',rfl⟩:=ry;exact rule i j t t' s _ _ {.int (g i j),H,I.tok _,{_,rfl},q}
def w6{f:Value->Value->Sem Value}{g:Int->Int->Bool}
  (rule:∀(i j:Int) (t u:Tok) (s:Shared) (Q:Value->Shared->Prop) (E:Value->Shared->Prop),Q (.bool (g i j)) s->wpAny (model X.prog X.w) X.A (f (.int i t) (.int j u)) Q E s):
  OpR X f (rI0 λi j=>.bl (g i j)):=by
 intro pins s σ H x y v u Q I rx ry h;obtain ⟨i,j,rfl,rfl,q⟩:=h;obtain ⟨t,rfl⟩:=rx;obtain ⟨t',rfl⟩:=ry;exact rule i j t t' s _ _ {.bl (g i j),H,I,rfl,q}
def CQ(i j:Int):Prop:=0<j/\j<1073741824
def CS(i j:Int):Prop:=0<=j/\j<=1000000/\i.natAbs<2^64
def w8(i j:Int):Prop:=(-(2^64)<i/\i<2^64)\/(-(2^64)<j/\j<2^64)
def w8.ok{i j:Int}(h:w8 i j):IntMulOk i j:=by
 rcases h with ⟨h1,h2⟩ | ⟨h1,h2⟩
 ·exact .of_left (intBits_le_64 h1 h2)
 ·exact .of_right (intBits_le_64 h1 h2)
def Ao:OpR X (binaryOp .Add) (rI0 λi j=>.int (i+j)):=BJ λ_ _ _ _ _ _ _ q=>add_int q
def Ap:OpR X (binaryOp .Sub) (rI0 λi j=>.int (i-j)):=BJ λ_ _ _ _ _ _ _ q=>sub_int q
def Aq:OpR X (binaryOp .Mult) (rI w8 λi j=>.int (i*j)):=opI λ_ _ _ _ _ _ _ hc q=>mul_int q hc.ok
def w9:OpR X (binaryOp .FloorDiv) (rI CQ λi j=>.int (i/j)):=opI λi j _ _ _ _ _ hc q=>by
 have h1:(0:Int)<j:=hc.1;have h2:j<1073741824:=hc.2;exact floordiv_int () (by rw[Int.fdiv_eq_ediv_of_nonneg i ()];exact q) (.inl (PyProof.noPylong_small ()))
def Ar:OpR X (binaryOp .Mod) (rI (λ_ j=>0<j) λi j=>.int (i%j)):=opI λi j _ _ _ _ _ hc q=>by
 have h1:(0:Int)<j:=hc;exact mod_int' () (by rw[Int.fmod_eq_emod_of_nonneg i ()];exact q)
def As:OpR X (binaryOp .Pow) (rI CS λi j=>.int (i^j.toNat)):=opI λ_ _ _ _ _ _ _ hc q=>pow_int_small hc.1 hc.2.1 hc.2.2 q
def unI{f:Value->Sem Value}{g:Int->Int}
  (rule:∀(i:Int) (t:Tok) (s:Shared) (Q:Value->Shared->Prop) (E:Value->Shared->Prop),Q (.int (g i) s.toks) { s with toks:=s.toks+1 }->wpAny (model X.prog X.w) X.A (f (.int i t)) Q E s):
  UnR X f (rU λi=>.int (g i)):=by
 intro pins s σ H x v Q I rx h;obtain ⟨i,rfl,q⟩:=h;obtain ⟨t,rfl⟩:=rx;exact rule i t s _ _ {.int (g i),H,I.tok _,{_,rfl},q}
def Au:UnR X (unaryOp .USub) (rU λi=>.int (-i)):=unI λ_ _ _ _ _ q=>neg_int q
end
def BK:V->V->Bool
 | .non,.non=>true | .non,.int _=>true | .int _,.non=>true | .non,.bl _=>true | .bl _,.non=>true | .non,.str _=>true | .str _,.non=>true
 | .int _,.int _=>true | .bl _,.bl _=>true | .str _,.str _=>true | .byt _,.byt _=>true
 | .int _,.str _=>true | .str _,.int _=>true | .bl _,.str _=>true | .str _,.bl _=>true
 | _,_=>false
inductive rEq  (x y:V) (H:Hp) (Q:VK):Prop
 | mk :BK x y=true->Q (.bl (decide (x=y))) H->rEq  x y H Q
inductive rNe  (x y:V) (H:Hp) (Q:VK):Prop
 | mk :BK x y=true->Q (.bl (!decide (x=y))) H->rNe  x y H Q
def rh{i j:Int}:decide (V.int i=V.int j)=(i==j):=by
 rw[Bool.eq_iff_iff];simp
def uO{i j:Bool}:decide (V.bl i=V.bl j)=(i==j):=by
 rw[Bool.eq_iff_iff];simp
def rj{i j:Str}:decide (V.str i=V.str j)=(i==j):=by
 rw[Bool.eq_iff_iff];simp
def rk{i j:Array UInt8}:decide (V.byt i=V.byt j)=(i.toList==j.toList):=by
 rw[Bool.eq_iff_iff];cases i;cases j;simp
section
variable {X:Cx} {a b c:Expr} {ta tb tc:TE} {pos:Pos}
def aB{pins:List (Addr×Obj)}{σ:St}{H:Hp}{s:Shared}{Q:VK}{k k':Bool}(I:Inv X pins σ H s)(q:Q (.bl k) H)(e:k=k'):EP X pins σ Q (.bool k') s:=by
 subst e;exact {.bl k,H,I,rfl,q}
def BL:OpR X (compareOp .Eq) rEq:=by
 intro pins s σ H x y v u Q I rx ry h;obtain ⟨hs,q⟩:=h;cases x with
 | non=>
  cases rx;cases y with
  | non=>cases ry;exact PySem.EqNone.eq_none_none (aB I q (by simp))
  | bl j=>cases ry;exact PySem.EqNone.eq_none_bool (aB I q (by simp))
  | int j=>obtain ⟨t',rfl⟩:=ry;exact PySem.EqNone.eq_none_int (aB I q (by simp))
  | str j=>obtain ⟨t',rfl⟩:=ry;exact PySem.EqNone.eq_none_str (aB I q (by simp))
  | _=>exact absurd (show false=true from hs) Bool.false_ne_true
 | bl i=>
  cases rx;cases y with
  | non=>cases ry;exact PySem.EqNone.eq_bool_none (aB I q (by simp))
  | bl j=>cases ry;exact eq_bool (aB I q uO)
  | str j=>obtain ⟨t',rfl⟩:=ry;exact PySem.EqMixed.eq_bool_str (aB I q (by simp))
  | _=>exact absurd (show false=true from hs) Bool.false_ne_true
 | int i=>
  obtain ⟨t,rfl⟩:=rx;cases y with
  | non=>cases ry;exact PySem.EqNone.eq_int_none (aB I q (by simp))
  | int j=>obtain ⟨t',rfl⟩:=ry;exact eq_int (aB I q rh)
  | str j=>obtain ⟨t',rfl⟩:=ry;exact PySem.EqMixed.eq_int_str (aB I q (by simp))
  | _=>exact absurd (show false=true from hs) Bool.false_ne_true
 | str i=>
  obtain ⟨t,rfl⟩:=rx;cases y with
  | non=>cases ry;exact PySem.EqNone.eq_str_none (aB I q (by simp))
  | bl j=>cases ry;exact PySem.EqMixed.eq_str_bool (aB I q (by simp))
  | int j=>obtain ⟨t',rfl⟩:=ry;exact PySem.EqMixed.eq_str_int (aB I q (by simp))
  | str j=>obtain ⟨t',rfl⟩:=ry;exact eq_str (aB I q rj)
  | _=>exact absurd (show false=true from hs) Bool.false_ne_true
 | byt i=>
  obtain ⟨t,rfl⟩:=rx;cases y with
  | byt j=>obtain ⟨t',rfl⟩:=ry;exact PySem.W.eq_bytes (aB I q rk)
  | _=>exact absurd (show false=true from hs) Bool.false_ne_true
 | _=>cases y<;>exact absurd (show false=true from hs) Bool.false_ne_true
def BM:OpR X (compareOp .NotEq) rNe:=by
 intro pins s σ H x y v u Q I rx ry h;obtain ⟨hs,q⟩:=h;cases x with
 | non=>
  cases rx;cases y with
  | non=>cases ry;exact PySem.EqNone.ne_none_none (aB I q (by simp))
  | bl j=>cases ry;exact PySem.EqNone.ne_none_bool (aB I q (by simp))
  | int j=>obtain ⟨t',rfl⟩:=ry;exact PySem.EqNone.ne_none_int (aB I q (by simp))
  | str j=>obtain ⟨t',rfl⟩:=ry;exact PySem.EqNone.ne_none_str (aB I q (by simp))
  | _=>exact absurd (show false=true from hs) Bool.false_ne_true
 | bl i=>
  cases rx;cases y with
  | non=>cases ry;exact PySem.EqNone.ne_bool_none (aB I q (by simp))
  | bl j=>cases ry;exact ne_bool (aB I q (congrArg not uO))
  | str j=>obtain ⟨t',rfl⟩:=ry;exact PySem.EqMixed.ne_bool_str (aB I q (by simp))
  | _=>exact absurd (show false=true from hs) Bool.false_ne_true
 | int i=>
  obtain ⟨t,rfl⟩:=rx;cases y with
  | non=>cases ry;exact PySem.EqNone.ne_int_none (aB I q (by simp))
  | int j=>obtain ⟨t',rfl⟩:=ry;exact ne_int (aB I q (congrArg not rh))
  | str j=>obtain ⟨t',rfl⟩:=ry;exact PySem.EqMixed.ne_int_str (aB I q (by simp))
  | _=>exact absurd (show false=true from hs) Bool.false_ne_true
 | str i=>
  obtain ⟨t,rfl⟩:=rx;cases y with
  | non=>cases ry;exact PySem.EqNone.ne_str_none (aB I q (by simp))
  | bl j=>cases ry;exact PySem.EqMixed.ne_str_bool (aB I q (by simp))
  | int j=>obtain ⟨t',rfl⟩:=ry;exact PySem.EqMixed.ne_str_int (aB I q (by simp))
  | str j=>obtain ⟨t',rfl⟩:=ry;exact ne_str (aB I q (congrArg not rj))
  | _=>exact absurd (show false=true from hs) Bool.false_ne_true
 | byt i=>
  obtain ⟨t,rfl⟩:=rx;cases y with
  | byt j=>obtain ⟨t',rfl⟩:=ry;exact PySem.W.ne_bytes (aB I q (congrArg not rk))
  | _=>exact absurd (show false=true from hs) Bool.false_ne_true
 | _=>cases y<;>exact absurd (show false=true from hs) Bool.false_ne_true
def hZ:OpR X (compareOp .Lt) (rI0 λi j=>.bl (decide (i<j))):=w6 λ_ _ _ _ _ _ _ q=>lt_int q
def rm:OpR X (compareOp .LtE) (rI0 λi j=>.bl (decide (i<=j))):=w6 λ_ _ _ _ _ _ _ q=>le_int q
def zx:OpR X (compareOp .Gt) (rI0 λi j=>.bl (decide (j<i))):=w6 λ_ _ _ _ _ _ _ q=>gt_int q
def zy:OpR X (compareOp .GtE) (rI0 λi j=>.bl (decide (j<=i))):=w6 λ_ _ _ _ _ _ _ q=>ge_int q
def OpR.or{f:Value->Value->Sem Value}{r r':R2}(h:OpR X f r)(h':OpR X f r'):OpR X f (λx y H Q=>r x y H Q\/r' x y H Q):=by
 intro pins s σ H x y v u Q I rx ry q;rcases q with q | q
 ·exact h pins s σ H x y v u Q I rx ry q
 ·exact h' pins s σ H x y v u Q I rx ry q
def br(b:Expr){op:CmpOp}(h:op≠.In:=by decide)(h2:op≠.NotIn:=by decide):behindInMarks op b=false:=by
 have e1:(op==CmpOp.In)=false:=by cases op<;>first | rfl | exact absurd rfl h
 have e2:(op==CmpOp.NotIn)=false:=by cases op<;>first | rfl | exact absurd rfl h2
 cases b<;>simp[behindInMarks,e1,e2]
def dS{op:CmpOp}{r:R2}(ho:OpR X (compareOp op) r)(ha:PE X a ta)(hb:PE X b tb)(hm:behindInMarks op b=false):PE X (.Compare a [op] [b] pos) (tOp r ta tb):=by
 intro pins s σ H Q I h;exact wpAny_Compare1 (An ha hb I h λv u s2 x y H2 I2 rx ry q=>ho pins s2 σ H2 x y v u Q I2 rx ry q) hm
def zA(t:TE):TT:=λσ H Q=>t σ H λx H'=>iB x H' Q
def bV{op:CmpOp}{r:R2}(ho:OpR X (compareOp op) r)(ha:PE X a ta)(hb:PE X b tb)(hm:behindInMarks op b=false):PT X (.Compare a [op] [b] pos) (zA (tOp r ta tb)):=by
 intro pins s σ H Q I h;refine wpAny_isTrue_Compare1 (thn (ha pins s σ H _ I h) λv s1 ⟨x,H1,I1,r1,q1⟩=>thn (hb pins s1 σ H1 _ I1 q1) λu s2 ⟨y,H2,I2,r2,q2⟩=>
  thn (ho pins s2 σ H2 x y v u _ I2 r1 r2 q2) λc s3 ⟨z,H3,I3,r3,k,e,q3⟩=>?_) hm
 subst e;cases r3;exact wpAny_truthy_bool ⟨H3,I3,q3⟩
def uP(r r':R2)(ta tb tc:TE):TE:=λσ H Q=>ta σ H λx H1=>tb σ H1 λy H2=>r x y H2 λz H3=>∃k,z=.bl k /\
 (if k=true then tc σ H3 λw' H4=>r' y w' H4 Q else Q (.bl false) H3)
def uQ{op op':CmpOp}{r r':R2}(ho:OpR X (compareOp op) r)(ho':OpR X (compareOp op') r')(ha:PE X a ta)(hb:PE X b tb)(hc:PE X c tc)
  (hm:lastMarks [op,op'] [b,c]=false:=by with_unfolding_all rfl):PE X (.Compare a [op,op'] [b,c] pos) (uP r r' ta tb tc):=by
 intro pins s σ H Q I h;refine Compare_chain (thn (ha pins s σ H _ I h) λv s1 ⟨x,H1,I1,r1,q1⟩=>chain_link (thn (hb pins s1 σ H1 _ I1 q1) λu s2 ⟨y,H2,I2,r2,q2⟩=>
  thn (ho pins s2 σ H2 x y v u _ I2 r1 r2 q2) λd s3 ⟨z,H3,I3,r3,k,e,q3⟩=>?_)) hm
 subst e;cases r3;refine wpAny_truthy_bool ?_;cases k with
 | false=>exact ite_ff ⟨.bl false,H3,I3,rfl,q3⟩
 | true=>exact ite_tt (chain_last (thn (hc pins s3 σ H3 _ I3 q3) λw' s4 ⟨z',H4,I4,r4,q4⟩=>ho' pins s4 σ H4 y z' u w' Q I4 r2 r4 q4))
def uR{op op':CmpOp}{r r':R2}(ho:OpR X (compareOp op) r)(ho':OpR X (compareOp op') r')(ha:PE X a ta)(hb:PE X b tb)(hc:PE X c tc)
  (hm:lastMarks [op,op'] [b,c]=false:=by with_unfolding_all rfl):PT X (.Compare a [op,op'] [b,c] pos) (zA (uP r r' ta tb tc)):=by
 intro pins s σ H Q I h;refine isTrue_chain (thn (ha pins s σ H _ I h) λv s1 ⟨x,H1,I1,r1,q1⟩=>test_link (thn (hb pins s1 σ H1 _ I1 q1) λu s2 ⟨y,H2,I2,r2,q2⟩=>
  thn (ho pins s2 σ H2 x y v u _ I2 r1 r2 q2) λd s3 ⟨z,H3,I3,r3,k,e,q3⟩=>?_)) hm
 subst e;cases r3;refine wpAny_truthy_bool ?_;cases k with
 | false=>
  obtain ⟨k',e',q'⟩:=q3;cases e';exact ite_ff ⟨H3,I3,q'⟩
 | true=>
  refine ite_tt (test_last (thn (hc pins s3 σ H3 _ I3 q3) λw' s4 ⟨z',H4,I4,r4,q4⟩=>thn (ho' pins s4 σ H4 y z' u w' _ I4 r2 r4 q4) λd' s5 ⟨z2,H5,I5,r5,k2,e2,q5⟩=>?_));subst e2;cases r5;exact wpAny_truthy_bool ⟨H5,I5,q5⟩
def BN(K:PySem.W.Frag)(x:V)(H:Hp)(k:Bool):Prop:=
 match x with
 | .non=>k=false
 | .bl b=>k=b
 | .int i=>k=(i != 0)
 | .str y=>y.length<=sizeLine/\k=((y.length:Int) != 0)
 | .byt y=>y.size<=sizeLine/\k=((y.size:Int) != 0)
 | .ref p=>(∃xs,SqL K H p xs/\k=!xs.isEmpty)\/(∃xs,SqT K H p xs/\k=!xs.isEmpty)\/∃kvs,H p=some (.dK kvs)/\k=!kvs.isEmpty
 | _=>False
def pZ{κ:Type}{kvs:List (κ×V)}{vs:List (κ×Value)}(r:KV kvs vs):(!vs.isEmpty)=!kvs.isEmpty:=by
 cases r<;>rfl
def kJ{xs:List V}{its:List Value}(r:aq xs its):(!its.toArray.isEmpty)=!xs.isEmpty:=by
 cases r<;>simp
def kK:(sizeLine:Nat)<2^63:=by rw[sizeLine_eq];decide
def Av:CP X (λx H Q=>∃k,BN X.K x H k/\Q k H):=by
 intro pins s σ H x v Q I rx h;obtain ⟨k,e,q⟩:=h;have hl:=kK;have hs:sizeLine=16777216:=sizeLine_eq;cases x with
 | non=>
  cases rx;have e':k=false:=e;subst e';exact truthy_none ⟨H,I,q⟩
 | bl b=>
  cases rx;have e':k=b:=e;subst e';exact wpAny_truthy_bool ⟨H,I,q⟩
 | int i=>
  obtain ⟨t,rfl⟩:=rx;have e':k=(i != 0):=e;subst e';exact PySem.P.truthy_int ⟨H,I,q⟩
 | str y=>
  obtain ⟨t,rfl⟩:=rx;obtain ⟨hy,e'⟩:y.length<=sizeLine/\k=((y.length:Int) != 0):=e;subst e';exact PySem.P.truthy_str () {H,I.tok _,q}
 | byt y=>
  obtain ⟨t,rfl⟩:=rx;obtain ⟨hy,e'⟩:y.size<=sizeLine/\k=((y.size:Int) != 0):=e;subst e';exact PySem.W.truthy_bytes () {H,I.tok _,q}
 | ref p=>
  cases rx;have e':(∃xs,SqL X.K H p xs/\k=!xs.isEmpty)\/(∃xs,SqT X.K H p xs/\k=!xs.isEmpty)\/∃kvs,H p=some (.dK kvs)/\k=!kvs.isEmpty:=e;rcases e' with ⟨xs,hx,e'⟩ | ⟨xs,hx,e'⟩ | ⟨kvs,hx,e'⟩
  ·subst e'
   obtain ⟨its,r,pl,hz⟩:=I.list hx;have hlen:=r.length;exact wpAny_truthy_list pl.isList (by simp only[size_toArray];omega) ⟨H,I.tok _,by rw[kJ r];exact q⟩
  ·subst e'
   obtain ⟨its,r,pl,hz⟩:=I.tuple hx;have hlen:=r.length;exact truthy_tuple pl (by simp only[size_toArray];omega) ⟨H,I.tok _,by rw[kJ r];exact q⟩
  ·subst e'
   obtain ⟨hz,hS,vs,r,m⟩:kvs.length<=sizeLine/\(p==sysModules)=false/\∃vs,KV kvs vs/\s.heap.DictOf (bo X.prog X.w) p vs:=I.hok p _ hx;have hlen:kvs.length=vs.length:=Paired.length r;exact wpAny_truthy_dict hS m () ⟨H,I.tok _,by rw[pZ r];exact q⟩
 | _=>exact (show False from e).elim
inductive iTr(K:PySem.W.Frag)(x:V)(H:Hp)(Q:Bool->Hp->Prop):Prop
 | mk (k:_):BN K x H k->Q k H->iTr K x H Q
def uS(ha:PE X a ta)(he:∀whole,isTrue a X.env whole=(do let v <- whole;standAt a.pos;holding [v] (truthy v))):
  PT X a (λσ H Q=>ta σ H λx H'=>iTr X.K x H' Q):=by
 intro pins s σ H Q I h;exact isTrue_plain (thn (ha pins s σ H _ I h) λv s1 ⟨x,H1,I1,r1,q1⟩=>Av pins s1 σ H1 x v Q I1 r1 (by obtain ⟨k,a,b⟩:=q1;exact ⟨k,a,b⟩)) (he _)
def p6:OpR X (binaryOp .Add) (λx y H Q=>∃i j,x=.str i/\y=.str j/\i.length+j.length<=sizeLine/\Q (.str (i++j)) H):=by
 intro pins s σ H x y v u Q I rx ry h;obtain ⟨i,j,rfl,rfl,hz,q⟩:=h;obtain ⟨t,rfl⟩:=rx;obtain ⟨t',rfl⟩:=ry;exact add_str (λt' tk=>{.str (i++j),H,I.tok _,{_,rfl},q}) hz
def eM{x:V}{us:List Value}(r:aq [x] us):∃u,us=[u]/\av x u:=by
 cases r with
 | cons r1 r2=>cases r2;exact {_,rfl,r1}
def ow{x y:V}{us:List Value}(r:aq [x,y] us):∃u w',us=[u,w']/\av x u/\av y w':=by
 cases r with
 | cons r1 r2=>
  cases r2 with
  | cons r3 r4=>cases r4;exact {_,_,rfl,r1,r3}
def tq(hc:X.calm=true):aV X (.builtin "max") (λxs H Q=>∃i j,xs=[.int i,.int j]/\Q (.int (if j>i then j else i)) H):=by
 intro pins s σ H xs us Q I r h;obtain ⟨i,j,rfl,q⟩:=h;obtain ⟨u,w',rfl,⟨t,rfl⟩,⟨t',rfl⟩⟩:=ow r;refine max_two_ints (I.ok.hd hc) λh' tk k=>{_,H,I.kept k,?_,q}
 by_cases hj:j>i
 ·rw[if_pos hj,if_pos hj];exact {_,rfl}
 ·rw[if_neg hj,if_neg hj];exact {_,rfl}
def tu(hc:X.calm=true):aV X (.builtin "min") (λxs H Q=>∃i j,xs=[.int i,.int j]/\Q (.int (if j<i then j else i)) H):=by
 intro pins s σ H xs us Q I r h;obtain ⟨i,j,rfl,q⟩:=h;obtain ⟨u,w',rfl,⟨t,rfl⟩,⟨t',rfl⟩⟩:=ow r;refine min_two_ints (I.ok.hd hc) λh' tk k=>{_,H,I.kept k,?_,q}
 by_cases hj:j<i
 ·rw[if_pos hj,if_pos hj];exact {_,rfl}
 ·rw[if_neg hj,if_neg hj];exact {_,rfl}
def tw:aV X (.type "int") (λxs H Q=>(∃i,xs=[.int i]/\Q (.int i) H)\/∃k,xs=[.bl k]/\Q (.int (if k then 1 else 0)) H):=by
 intro pins s σ H xs us Q I r h;rcases h with ⟨i,rfl,q⟩ | ⟨k,rfl,q⟩
 ·obtain ⟨u,rfl,t,rfl⟩:=eM r
  exact call_int_int {.int i,H,I,{_,rfl},q}
 ·obtain ⟨u,rfl,r1⟩:=eM r
  cases r1;exact call_int_bool {.int (if k then 1 else 0),H,I.tok _,{_,rfl},q}
def BO(K:PySem.W.Frag)(x:V)(H:Hp)(n:Nat):Prop:=
 match x with
 | .str y=>y.length<=sizeLine/\n=y.length
 | .byt y=>y.size<=sizeLine/\n=y.size
 | .ref p=>(∃xs,SqL K H p xs/\n=xs.length)\/∃xs,SqT K H p xs/\n=xs.length
 | _=>False
def uT:aV X (.builtin "len") (λxs H Q=>∃x n,xs=[x]/\BO X.K x H n/\Q (.int n) H):=by
 intro pins s σ H xs us Q I r h;obtain ⟨x,n,rfl,e,q⟩:=h;obtain ⟨u,rfl,rx⟩:=eM r;have hl:=kK;have hs:sizeLine=16777216:=sizeLine_eq;cases x with
 | str y=>
  obtain ⟨t,rfl⟩:=rx;obtain ⟨hy,e'⟩:y.length<=sizeLine/\n=y.length:=e;subst e';exact len_str () {.int _,H,I.tok _,{_,rfl},q}
 | byt y=>
  obtain ⟨t,rfl⟩:=rx;obtain ⟨hy,e'⟩:y.size<=sizeLine/\n=y.size:=e;subst e';exact PySem.W.len_bytes () {.int _,H,I.tok _,{_,rfl},q}
 | ref p=>
  cases rx;have e':(∃xs,SqL X.K H p xs/\n=xs.length)\/∃xs,SqT X.K H p xs/\n=xs.length:=e;rcases e' with ⟨xs,hx,e'⟩ | ⟨xs,hx,e'⟩
  ·subst e'
   obtain ⟨its,r',pl,hz⟩:=I.list hx;have hlen:=r'.length;exact Calls.call_len_list pl.isList (by simp only[size_toArray];omega) ⟨.int xs.length,H,I.tok _,⟨_,by simp only[size_toArray];rw[hlen]⟩,q⟩
  ·subst e'
   obtain ⟨its,r',pl,hz⟩:=I.tuple hx;have hlen:=r'.length;exact len_tuple pl (by simp only[size_toArray];omega) ⟨.int xs.length,H,I.tok _,⟨_,by simp only[size_toArray];rw[hlen]⟩,q⟩
 | _=>exact (show False from e).elim
end
structure p7(h:Heap)(x dx C:Addr)(mA:Str->Option Value):Prop where
 obj:h.get? x=some (instObj C dx)
 ns:h.Ns1 dx mA
 ne:dx≠x
def tD{h:Heap}{dx:Addr}{mA:Str->Option Value}(n:h.Ns1 dx mA):∃od,h.get? dx=some od/\∀name,lookIn name od=some (mA name):=by
 obtain ⟨o,es,ep,ho,hd,hk,_,hm⟩:=n;refine {o,ho,λname=>?_};have e:=hm name;unfold nsFind findBy at e;rw[<- Array.find?_toList] at e;unfold lookIn;rw[hd];dsimp only
 split
 ·rename_i y q
  rw[q] at e;exact congrArg some e
 ·rename_i q
  rw[q] at e;have a:es.toList.any (·.refKey)=false:=by
   rw[List.any_eq_false];intro y hy;obtain ⟨z,t,hkey⟩:=hk y (Array.mem_toList_iff.mp hy);simp[DictEntry.refKey,hkey]
  have a':¬ es.toList.any (·.refKey)=true:=by rw[a];exact Bool.false_ne_true
  rw[if_neg a'];exact congrArg some e
def p7.look{h:Heap}{x dx C:Addr}{mA:Str->Option Value}(I:p7 h x dx C mA):∃od,PySem.W.InstAt h x (instObj C dx) C (some od)/\∀name,lookIn name od=some (mA name):=
 let ⟨od,ho,hl⟩:=tD I.ns
 ⟨od,⟨I.obj,rfl,rfl,ho⟩,hl⟩
section
variable {prog:Program} {w:World} {A:Around} {E:Value->Shared->Prop} {s:Shared} {K:PySem.W.Frag} {x dx C f:Addr} {mA:Str->Option Value} {name:Str} {v:Value}
def xb{expr:Bool}{Q:Value->Shared->Prop}(X:K.In s.heap)(I:p7 s.heap x dx C mA)(hg:plainGet K C name=true)(hh:PySem.W.hasDictIn K C=true)
  (ha:PySem.W.findIn K (.ref C) name=some none) (hv:mA name=some v) (hv':PySem.W.handedIn v=true) (h:Q v { s with toks:=s.toks+1 }):
  wpAny (model prog w) A (getAttr (.ref x) name expr) Q E s:=by
 obtain ⟨od,J,hl⟩:=I.look;exact PySem.W.get_value X J (PySem.W.plainGet_of hg).1 (PySem.W.findObj_own hh ha rfl (by rw[hl,hv])) hv' h
def uU{pl:Sem Bool}{Q:Value×List Value->Shared->Prop}(X:K.In s.heap)(I:p7 s.heap x dx C mA)(hg:plainGet K C name=true)
  (hf:PySem.W.findIn K (.ref C) name=some (some (.ref f))) (ht:isFn K (.ref f)=true) (hv:mA name=none) (h:Q (.ref f,[.ref x]) s):
  wpAny (model prog w) A (getMethod (.ref x) name pl) Q E s:=by
 obtain ⟨od,J,hl⟩:=I.look;exact PySem.W.method_fn X J (PySem.W.plainGet_of hg).1 (PySem.W.plainGet_of hg).2 hf (beq_iff_eq.mp ht) (by show (lookIn name od).map (·.isSome)=some false;rw[hl,hv];rfl) h
def xK{ns:List Str}{Q:Unit->Shared->Prop}(X:K.In s.heap)(I:p7 s.heap x dx C mA)
  (hs:PySem.W.findIn K (.ref C) "__setattr__"=some (some (.builtin "object.__setattr__"))) (hp:plainOver K C=true) (ht:PySem.W.takerIn K C name=some none) (hh:PySem.W.hasDictIn K C=true)
  (hw:PySem.Within mA ns) (hsz:ns.length<=sizeLine)
  (h:∀h',p7 h' x dx C (λy=>if y=name then some v else mA y)->Heap.SameBut dx s.heap h'->Q Unit.unit { s with heap:=h',toks:=s.toks+2 }):
  wpAny (model prog w) A (setAttr (.ref x) name v) Q E s:=by
 obtain ⟨od,J,hl⟩:=I.look;refine PySem.W.set_plain X J hs (PySem.W.osa_open (s:={ s with toks:=s.toks+1 }) (r:=none) X J hp ht λb=>?_);obtain ⟨cd,hc,hd'⟩:=PySem.W.any_some hh;have hx:s.heap.get? x=some ⟨.ref C,some dx,.plain,#[]⟩:=I.obj;refine wpAny_bind (wpAny_pure (wpAny_bind (wpAny_bind (wpAny_loadPart hx (wpAny_bind (PySem.W.Looks.here (s:={ s with toks:=s.toks+1 }) (PySem.W.looks_clsIn X hc) ?_))))));rw[hd'];refine wpAny_pure (a:=some dx) (wpAny_bind (wpAny_pure (wpAny_bind ?_)));refine wpAny_nsSet1 (s:={ s with toks:=s.toks+1 }) I.ns λh' hn2 hs2=>?_;obtain ⟨oD,esD,epD,hoD,hdD,hcD⟩:=hn2.count (PySem.Within.cons name v hw)
 refine wpAny_bind (wpAny_lookBehind hoD (by rw[hdD];exact pastItsLine_dict (Nat.le_trans hcD (by rw[length_cons];omega))) ?_);exact wpAny_pure (h _ {(hs2.2 _ (Ne.symm I.ne)).trans I.obj,hn2,I.ne} hs2)
def uV{R:Result->Shared->Prop}{vs:List Value}{kw:List (Str×Value)}(X:K.In s.heap)(hm:makesIn K C=true)
  (hi:PySem.W.findIn K (.ref C) "__init__"=some (some (.ref f))) (hf:PySem.W.typeIn K (.ref f)=some (.type "function"))
  (h:codeAny (model prog w) (A.under (.builtin "type.__call__" ⟨.ref C::vs,kw⟩)) (.call (.ref f) ⟨.ref (s.heap.objs.size+1)::vs,kw⟩) (PySem.W.InitBack (s.heap.objs.size+1) R)
   { s with heap:=(s.heap.push emptyDict).push (instObj C s.heap.objs.size) }):
  codeAny (model prog w) A (.call (.ref C) ⟨vs,kw⟩) R s:=by
 obtain ⟨hh,g,d,t,os⟩:=s;exact PySem.W.make_core (PySem.W.makes_of X hm) (PySem.W.looks_findIn X hi) (λself=>PySem.W.bind_fn X self hf) (.inl rfl) h
end
def aL(f:Str)(v:V):List (Str×V)->List (Str×V)
 | []=>[(f,v)]
 | (g,x)::r=>if g=f then (g,v)::r else (g,x)::aL f v r
def jA(f g:Str)(v:V):∀fs:List (Str×V),(aL f v fs).lookup g=if g=f then some v else fs.lookup g
 | []=>by
  show List.lookup g [(f,v)]=_
  by_cases h:g=f
  ·have hb:(g==f)=true:=beq_iff_eq.mpr h
   simp only[List.lookup,hb,if_pos h]
  ·have hb:(g==f)=false:=beq_eq_false_iff_ne.mpr h
   simp only[List.lookup,hb,if_neg h]
 | (k,x)::r=>by
  have ih:=jA f g v r;rw[show aL f v ((k,x)::r)=(if k=f then (k,v)::r else (k,x)::aL f v r) from rfl]
  by_cases hk:k=f
  ·rw[if_pos hk]
   by_cases h:g=k
   ·have hb:(g==k)=true:=beq_iff_eq.mpr h
    simp only[List.lookup,hb,if_pos (h.trans hk)]
   ·have hb:(g==k)=false:=beq_eq_false_iff_ne.mpr h
    simp only[List.lookup,hb,if_neg (λe:g=f=>h (e.trans hk.symm))]
  ·rw[if_neg hk]
   by_cases h:g=k
   ·have hb:(g==k)=true:=beq_iff_eq.mpr h
    simp only[List.lookup,hb,if_neg (λe:g=f=>hk (h.symm.trans e))]
   ·have hb:(g==k)=false:=beq_eq_false_iff_ne.mpr h
    simp only[List.lookup,hb];exact ih
def jf(f:Str)(v:V):∀fs:List (Str×V),f∈(aL f v fs).map (·.1)/\∀g,g∈fs.map (·.1)->g∈(aL f v fs).map (·.1)
 | []=>⟨by simp[aL],λg h=>by simp at h⟩
 | (k,x)::r=>by
  obtain ⟨i1,i2⟩:=jf f v r;rw[show aL f v ((k,x)::r)=(if k=f then (k,v)::r else (k,x)::aL f v r) from rfl]
  by_cases hk:k=f
  ·rw[if_pos hk]
   subst hk;exact ⟨by simp,λg h=>by simpa using h⟩
  ·rw[if_neg hk]
   refine {?_,λg h=>?_}
   ·rw[map_cons]
    exact mem_cons_of_mem _ i1
   ·rw[map_cons] at h ⊢
    rcases mem_cons.mp h with e | e
    ·exact mem_cons.mpr (.inl e)
    ·exact mem_cons_of_mem _ (i2 g e)
def jB(f:Str)(v:V):∀fs:List (Str×V),(aL f v fs).length<=fs.length+1
 | []=>by simp[aL]
 | (k,x)::r=>by
  have ih:=jB f v r;rw[show aL f v ((k,x)::r)=(if k=f then (k,v)::r else (k,x)::aL f v r) from rfl]
  by_cases hk:k=f
  ·rw[if_pos hk,length_cons,length_cons];omega
  ·rw[if_neg hk,length_cons,length_cons];omega
def fS.some_of{v:V}{o:Option Value}(r:fS (some v) o):∃u,o=some u/\av v u:=by
 cases o with
 | none=>exact (show False from r).elim
 | some u=>exact ⟨u,rfl,r⟩
def fS.none_of{o:Option Value}(r:fS none o):o=none:=by
 cases o with
 | none=>rfl
 | some u=>exact (show False from r).elim
def tE{v:V}{u:Value}(r:av v u):PySem.W.handedIn u=true:=by
 cases v with
 | non=>cases (show u=Value.none from r);rfl
 | bl b=>cases (show u=Value.bool b from r);rfl
 | int i=>obtain ⟨t,e⟩:=(show ∃t,u=Value.int i t from r);cases e;rfl
 | str x=>obtain ⟨t,e⟩:=(show ∃t,u=Value.str x t from r);cases e;rfl
 | byt b=>obtain ⟨t,e⟩:=(show ∃t,u=Value.bytes b t from r);cases e;rfl
 | flt b=>obtain ⟨t,e⟩:=(show ∃t,u=Value.float b t from r);cases e;rfl
 | ref a=>cases (show u=Value.ref a from r);rfl
 | ty n=>cases (show u=Value.type n from r);rfl
section
variable {P:Program} {w:World} {H H':Hp} {h h':Heap} {a C dx:Addr} {fs fs':List (Str×V)}
def kh(hok:HOk P w H h)(e:H a=some (.ins C dx fs)):∃mA,p7 h a dx C mA/\(∀f,fS (fs.lookup f) (mA f))/\PySem.Within mA (fs.map (·.1))/\fs.length<=1000/\H dx=some (.own a):=by
 obtain ⟨d,z,ne,ob,mA,n,r,q⟩:=(show aE P w H h a (.ins C dx fs) from hok a _ e);exact {mA,⟨ob,n,ne⟩,r,q,z,d}
end
structure Cls(K:PySem.W.Frag)(C:Addr):Prop where
 pg:plainGet K C Str.empty=true
 hd:PySem.W.hasDictIn K C=true
 po:plainOver K C=true
 sa:PySem.W.findIn K (.ref C) "__setattr__"=some (some (.builtin "object.__setattr__"))
def Cls.get{K:PySem.W.Frag}{C:Addr}(c:Cls K C)(f:Str):plainGet K C f=true:=c.pg
def aF(K:PySem.W.Frag)(C:Addr)(f:Str):Prop:=PySem.W.findIn K (.ref C) f=some none
def aF.taker{K:PySem.W.Frag}{C:Addr}{f:Str}(n:aF K C f):PySem.W.takerIn K C f=some none:=by
 unfold PySem.W.takerIn;rw[show PySem.W.findIn K (.ref C) f=some none from n];rfl
structure uW(K:PySem.W.Frag)(C:Addr)(m:Str)(f:Addr):Prop where
 at_:PySem.W.findIn K (.ref C) m=some (some (.ref f))
 fn:isFn K (.ref f)=true
 kp:keepIn K (.ref f)=true
section
variable {X:Cx} {pins:List (Addr×Obj)} {σ:St} {H:Hp} {s:Shared} {a C dx:Addr} {fs:List (Str×V)} {f:Str} {v:V} {A:Around} {E:Value->Shared->Prop}
def kL{b:Bool}{Q:Value->Shared->Prop}(I:Inv X pins σ H s)(e:H a=some (.ins C dx fs))(c:Cls X.K C)(n:aF X.K C f)(l:fs.lookup f=some v)
  (h:∀u s',Inv X pins σ H s'->av v u->Q u s'):wpAny (model X.prog X.w) A (getAttr (.ref a) f b) Q E s:=by
 obtain ⟨mA,O,r,_,_,_⟩:=kh I.hok e;obtain ⟨u,hu,ru⟩:=fS.some_of (v:=v) (o:=mA f) (by rw[<- l];exact r f);exact xb I.kIn O (c.get f) c.hd n hu (tE ru) (h u _ (I.tok _) ru)
def iu{m:Str}{g:Addr}{pl:Sem Bool}{Q:Value×List Value->Shared->Prop}(I:Inv X pins σ H s)(e:H a=some (.ins C dx fs))(c:Cls X.K C)(k:uW X.K C m g)(l:fs.lookup m=none)
  (h:Q (.ref g,[.ref a]) s):wpAny (model X.prog X.w) A (getMethod (.ref a) m pl) Q E s:=by
 obtain ⟨mA,O,r,_,_,_⟩:=kh I.hok e;have hn:mA m=none:=fS.none_of (by rw[<- l];exact r m);exact uU I.kIn O (c.get m) k.at_ k.fn hn h
def kM{y:V}{u:Value}{Q:Unit->Shared->Prop}(I:Inv X pins σ H s)(e:H a=some (.ins C dx fs))(c:Cls X.K C)(n:aF X.K C f)(hl:fs.length<1000)(ry:av y u)
  (h:∀s',Inv X pins σ (upd H a (.ins C dx (aL f y fs))) s'->Q Unit.unit s'):wpAny (model X.prog X.w) A (setAttr (.ref a) f u) Q E s:=by
 obtain ⟨mA,O,r,wi,_,ho⟩:=kh I.hok e;have hz:(fs.map (·.1)).length<=sizeLine:=by rw[length_map,sizeLine_eq];omega
 refine xK I.kIn O c.sa c.po n.taker c.hd wi hz λh' O' sb=>h _ ?_;have hd:∃o,h'.get? dx=some o:=let ⟨o,_,_,e',_⟩:=O'.ns;⟨o,e'⟩;refine I.write (x:=a) (e:=dx) (by rw[e];exact True.intro) (.inr ho) (λb q hb z=>(sb.2 b hb).trans z) hd ?_;refine ⟨by rw[ae O.ne];exact ho,?_,O.ne,O'.obj,_,O'.ns,λg=>?_,λg hg=>?_⟩
 ·have:=jB f y fs;omega
 ·show fS ((aL f y fs).lookup g) (if g=f then some u else mA g)
  rw[jA]
  by_cases q:g=f
  ·rw[if_pos q,if_pos q];exact ry
  ·rw[if_neg q,if_neg q];exact r g
 ·by_cases q:g=f
  ·rw[q];exact (jf f y fs).1
  ·refine (jf f y fs).2 g (wi g λz=>hg ?_)
   show (if g=f then some u else mA g)=none;rw[if_neg q];exact z
def Inv.made(I:Inv X pins σ H s):Inv X pins σ (upd (upd H s.heap.objs.size (.own (s.heap.objs.size+1))) (s.heap.objs.size+1) (.ins C s.heap.objs.size []))
  { s with heap:=(s.heap.push emptyDict).push (instObj C s.heap.objs.size) }:=by
 have e1:(s.heap.push emptyDict).get? s.heap.objs.size=some emptyDict:=get?_push_size s.heap rfl;have e2:((s.heap.push emptyDict).push (instObj C s.heap.objs.size)).get? (s.heap.objs.size+1)=some (instObj C s.heap.objs.size):=by
  have:=get?_push_size (s.heap.push emptyDict) (o:=instObj C s.heap.objs.size) rfl
  rwa [Heap.size_push] at this
 have e3:(s.heap.push emptyDict).Ns s.heap.objs.size (λ_=>none):=⟨emptyDict,#[],_,e1,rfl,(λe he=>absurd he (by simp)),λ_=>rfl⟩;have I1:=I.laid (a:=s.heap.objs.size) (o:=.own (s.heap.objs.size+1)) (h':=s.heap.push emptyDict) (t':=s.toks) (λb u q=>get?_push_of_some _ q) (Nat.le_refl _) ⟨_,e1⟩;refine I1.laid (a:=s.heap.objs.size+1) (o:=.ins C s.heap.objs.size []) (t':=s.toks) (λb u q=>get?_push_of_some _ q) (Nat.le_of_eq (Heap.size_push _ _)) ?_;have ne:s.heap.objs.size≠s.heap.objs.size+1:=Nat.ne_of_lt (lt_succ_self _);refine ⟨by rw[ae ne,aa],zero_le _,ne,e2,λ_=>none,(Heap.Ns1.of_empty e3).at λo q=>get?_push_of_some _ q,λ_=>True.intro,λy hy=>absurd rfl hy⟩
def xT{prog:Program}{w:World}{env:Env}{e:Expr}{f:Str}{pos:Pos}{s:Shared}{Q:Value->Shared->Prop}(hb:attributeBase e f env (eval e env)=eval e env)
  (h:wpAny (model prog w) A (eval e env) (λo s₁=>wpAny (model prog w) A (getAttr o f true) Q E s₁) E s):wpAny (model prog w) A (eval (.Attribute e f pos) env) Q E s:=
 Attribute_any_ h (by rw[arm_eval_Attribute,hb])
end
inductive BP(K:PySem.W.Frag)(f:Str)(x:V)(H:Hp)(Q:VK):Prop
 | mk (a:_) (C:_) (dx:_) (fs:_) (v:_):x=.ref a->H a=some (.ins C dx fs)->Cls K C->aF K C f->fs.lookup f=some v->Q v H->BP K f x H Q
def BQ(K:PySem.W.Frag)(ta:TE)(f:Str):TE:=λσ H Q=>ta σ H λx H1=>BP K f x H1 Q
inductive iSF(K:PySem.W.Frag)(f:Str)(x y:V)(H:Hp)(N:Hp->Prop):Prop
 | mk (a:_) (C:_) (dx:_) (fs:_):x=.ref a->H a=some (.ins C dx fs)->Cls K C->aF K C f->fs.length<1000->N (upd H a (.ins C dx (aL f y fs)))->iSF K f x y H N
def BR(K:PySem.W.Frag)(ta tv:TE)(f:Str):TS:=λD σ H=>tv σ H λy H1=>ta σ H1 λx H2=>iSF K f x y H2 (D.nx σ)
def Aw(X:Cx)(op:Operator)(rd:V->V->Hp->VK->Prop):Prop:=
 ∀(pins:List (Addr×Obj)) (s:Shared) (σ:St) (H:Hp) (x y:V) (u v:Value) (Q:VK),Inv X pins σ H s->av x u->av y v->rd x y H Q->wpAny (model X.prog X.w) X.A (inplaceOp op u v) (EP X pins σ Q) X.xe s
inductive iFB(f:Str)(a C:Addr)(z:V)(H:Hp)(N:Hp->Prop):Prop
 | mk (dx':_) (fs':_):H a=some (.ins C dx' fs')->fs'.length<1000->N (upd H a (.ins C dx' (aL f z fs')))->iFB f a C z H N
inductive iFA(K:PySem.W.Frag)(f:Str)(x:V)(H:Hp)(R:Addr->Addr->V->Prop):Prop
 | mk (a:_) (C:_) (dx:_) (fs:_) (v:_):x=.ref a->H a=some (.ins C dx fs)->Cls K C->aF K C f->fs.lookup f=some v->R a C v->iFA K f x H R
def rB(K:PySem.W.Frag)(ta tv:TE)(rd:V->V->Hp->VK->Prop)(f:Str):TS:=λD σ H=>ta σ H λx H1=>iFA K f x H1 λa C v=>
 tv σ H1 λy H2=>rd v y H2 λz H3=>iFB f a C z H3 (D.nx σ)
section
variable {X:Cx} {o e value:Expr} {f:Str} {pos pos' tpos:Pos} {ta tv:TE}
def Ax(he:PE X e ta)(hb:attributeBase e f X.env (eval e X.env)=eval e X.env):PE X (.Attribute e f pos) (BQ X.K ta f):=by
 intro pins s σ H Q I h;refine xT hb (thn (he pins s σ H _ I h) λu s1 ⟨x,H1,I1,rx,a,C,dx,fs,v,ex,ea,c,n,l,q⟩=>?_);subst ex;obtain rfl:u=Value.ref a:=rx;exact kL I1 ea c n l λu' s2 I2 ru=>⟨v,H1,I2,ru,q⟩
def Ay(ha:PE X o ta)(hv:PE X value tv)(hs:swapsWith value (some (.Attribute o f pos')) pos.line X.env=pure false):PS X (.Assign [.Attribute o f pos'] value pos) (BR X.K ta tv f):=by
 intro pins s σ H D I h;refine plainObj_wpAny_Assign_Attribute (thn (hv pins s σ H _ I h) λu s1 ⟨y,H1,I1,ry,q⟩=>thn (ha pins s1 σ H1 _ I1 q) λov s2 ⟨x,H2,I2,rx,a,C,dx,fs,ex,ea,c,n,l,q2⟩=>?_) hs;subst ex;obtain rfl:ov=Value.ref a:=rx;exact kM I2 ea c n l ry λs3 I3=>{σ,_,I3,q2}
def tF{op:Operator}{rd:V->V->Hp->VK->Prop}(ha:PE X o ta)(hv:PE X value tv)(hop:Aw X op rd):PS X (.AugAssign (.Attribute o f tpos) op value pos) (rB X.K ta tv rd f):=by
 intro pins s σ H D I h;refine wpAny_AugAssign_AttributeAny (thn (ha pins s σ H _ I h) λov s1 ⟨x,H1,I1,rx,a,C,dx,fs,v,ex,ea,c,n,l,q⟩=>?_);subst ex;obtain rfl:ov=Value.ref a:=rx;refine kL I1 ea c n l λu s2 I2 ru=>thn (hv pins s2 σ H1 _ I2 q) λw3 s3 ⟨y,H2,I3,ry,q3⟩=>thn (hop pins s3 σ H2 v y u w3 _ I3 ru ry q3) λw4 s4 ⟨z,H3,I4,rz,dx',fs',ea',l',q4⟩=>?_;exact kM I4 ea' c n l' rz λs5 I5=>{σ,_,I5,q4}
inductive BS  (x y:V) (H:Hp) (Q:VK):Prop
 | mk (i:_) (j:_):x=.int i->y=.int j->Q (.int (i+j)) H->BS  x y H Q
def p8:Aw X .Add BS:=by
 rintro pins s σ H x y u v Q I rx ry ⟨i,j,rfl,rfl,q⟩;obtain ⟨t,rfl⟩:=(show ∃t,u=Value.int i t from rx);obtain ⟨t',rfl⟩:=(show ∃t',v=Value.int j t' from ry);exact PyProof.Rows.iadd_int {.int (i+j),H,I.tok _,{_,rfl},q}
end
section
variable {X:Cx} {pins:List (Addr×Obj)} {σ:St} {H:Hp} {s:Shared} {A:Around} {E:Value->Shared->Prop} {Q:Value->Shared->Prop} {c:Value} {b:Bool}
inductive fU(K:PySem.W.Frag)(H:Hp):V->Value->Prop where
 | non:fU K H .non (.type "NoneType")
 | bl (x:Bool):fU K H (.bl x) (.type "bool")
 | int (i:Int):fU K H (.int i) (.type "int")
 | str (x:Str):fU K H (.str x) (.type "str")
 | flt (x:UInt64):fU K H (.flt x) (.type "float")
 | lst {a:Addr} {xs:List V} (e:H a=some (.lst xs)):fU K H (.ref a) (.type "list")
 | frz {a:Addr} {o:Obj} {xs:List V} (e:H a=some (.frz o (.lst xs))):fU K H (.ref a) (.type "list")
 | tup {a:Addr} {xs:List V} (e:H a=some (.tup xs)):fU K H (.ref a) (.type "tuple")
 | dK {a:Addr} {kvs:List (Key×V)} (e:H a=some (.dK kvs)):fU K H (.ref a) (.type "dict")
 | dT {a:Addr} {kvs:List (List Key×V)} (e:H a=some (.dT kvs)):fU K H (.ref a) (.type "dict")
 | ins {a C dx:Addr} {fs:List (Str×V)} (e:H a=some (.ins C dx fs)) (cl:Cls K C) (ha:PySem.W.findIn K (.ref C) "__class__"=some (some (.builtin "object.__class__")))
   (hn:PySem.W.specialIn K (.builtin "object.__class__") "__get__"=some (some (.builtin "getset_descriptor.__get__"))) (htk:PySem.W.takesIn K (.builtin "object.__class__")=some true)
   (hm:PySem.W.mroIn K C (.type "object")=some true):fU K H (.ref a) (.ref C)
def tG{x:V}{u t:Value}(I:Inv X pins σ H s)(rx:av x u)(ty:fU X.K H x t)(e:kitOne X.K t c=some b)(h:∀tk,Q (.bool b) { s with toks:=tk }):
  wpAny (model X.prog X.w) A (call (.builtin "isinstance") [u,c]) Q E s:=by
 cases ty with
 | non=>cases (show u=Value.none from rx);exact kia_one PySem.W.kitx_none I.kIn True.intro e (λz=>nomatch z) h
 | bl y=>cases (show u=Value.bool y from rx);exact kia_one PySem.W.kitx_bool I.kIn True.intro e (λz=>nomatch z) h
 | int i=>obtain ⟨t,q⟩:=(show ∃t,u=Value.int i t from rx);cases q;exact kia_one PySem.W.kitx_int I.kIn True.intro e (λz=>nomatch z) h
 | str y=>obtain ⟨t,q⟩:=(show ∃t,u=Value.str y t from rx);cases q;exact kia_one PySem.W.kitx_str I.kIn True.intro e (λz=>nomatch z) h
 | flt y=>obtain ⟨t,q⟩:=(show ∃t,u=Value.float y t from rx);cases q;exact kia_one PySem.W.kitx_float I.kIn True.intro e (λz=>nomatch z) h
 | @lst a xs ea=>
  cases (show u=Value.ref a from rx);obtain ⟨_,_,n,_,h1⟩:=(show aE X.prog X.w H s.heap a (.lst xs) from I.hok a _ ea);exact kia_one PySem.W.kitx_list I.kIn {_,h1,rfl} e (λz=>nomatch z) h
 | @frz a ob xs ea=>
  cases (show u=Value.ref a from rx);obtain ⟨_,_,_,n,_,h1⟩:=(show aE X.prog X.w H s.heap a (.frz ob (.lst xs)) from I.hok a _ ea);exact kia_one PySem.W.kitx_list I.kIn {_,h1,rfl} e (λz=>nomatch z) h
 | @tup a xs ea=>
  cases (show u=Value.ref a from rx);obtain ⟨_,_,_,p⟩:=(show aE X.prog X.w H s.heap a (.tup xs) from I.hok a _ ea);obtain ⟨o,h1,h2,_⟩:=p;exact kia_one PySem.W.kitx_tuple I.kIn ⟨o,h1,h2⟩ e (λz=>nomatch z) h
 | @dK a kvs ea=>
  cases (show u=Value.ref a from rx);obtain ⟨_,_,vs,_,p⟩:=(show aE X.prog X.w H s.heap a (.dK kvs) from I.hok a _ ea);obtain ⟨o,es,ep,h1,h2,_⟩:=p;exact kia_one PySem.W.kitx_dict I.kIn ⟨o,h1,h2.1⟩ e (λz=>nomatch z) h
 | @dT a kvs ea=>
  cases (show u=Value.ref a from rx);obtain ⟨_,_,xs,_,o,es,ep,h1,h2,_⟩:=(show aE X.prog X.w H s.heap a (.dT kvs) from I.hok a _ ea);exact kia_one PySem.W.kitx_dict I.kIn ⟨o,h1,h2.1⟩ e (λz=>nomatch z) h
 | @ins a C dx fs ea cl ha hn htk hm=>
  cases (show u=Value.ref a from rx);obtain ⟨mA,O,_⟩:=kh I.hok ea;obtain ⟨od,J,_⟩:=O.look;exact kia_one (PySem.W.kitx_own (cl.get _) cl.hd ha hn htk hm) I.kIn J e (λz=>nomatch z) h
end
structure bi(k:Nat)(A:Around):Prop where
 hd:A.handled=none
 dp:A.depth+3*k+5<recursionLimit
 un:A.units+16*k+200<cLine
def bi.mono{j k:Nat}{A:Around}(r:bi k A)(h:j<=k):bi j A:=⟨r.hd,by have:=r.dp;omega,by have:=r.un;omega⟩
def bi.deeper{k:Nat}{A:Around}(r:bi (k+1) A)(env:Env):bi k (A.deeper env):=
 ⟨r.hd,by have:=r.dp;show A.depth+1+3*k+5<_;omega,by have:=r.un;show A.units+3+16*k+200<_;omega⟩
def p9{A:Around}{C:Addr}{us:List Value}{kw:List (Str×Value)}:(A.under (.builtin "type.__call__" ⟨.ref C::us,kw⟩)).depth=A.depth+1:=by
 first | rfl | simp[Around.under,Code.weight,Code.isCreation,Code.isGuard,Code.isCaller,Code.frames,Code.isFrame,guardIds]
def qd{A:Around}{C:Addr}{us:List Value}{kw:List (Str×Value)}:(A.under (.builtin "type.__call__" ⟨.ref C::us,kw⟩)).units=A.units+1:=by
 first | rfl | simp[Around.under,Code.cUnits,Code.frames,Code.isFrame]
def bi.make{k:Nat}{A:Around}(r:bi (k+1) A)(C:Addr)(us:List Value)(kw:List (Str×Value)):bi k (A.under (.builtin "type.__call__" ⟨.ref C::us,kw⟩)):=
 ⟨r.hd,by have:=r.dp;rw[p9];omega,by have:=r.un;rw[qd];omega⟩
def bi.depth{k:Nat}{A:Around}(r:bi k A):A.depth<recursionLimit:=by have:=r.dp;omega
def bi.units{k:Nat}{A:Around}(r:bi k A):A.units+64<cLine:=by have:=r.un;omega
def tH:TA:=λ_ H Q=>Q [] H
def rC(ta:TE)(tr:TA):TA:=λσ H Q=>ta σ H λx H1=>tr σ H1 λxs H2=>Q (x::xs) H2
section
variable {X:Cx} {e:Expr} {es:List Expr} {te:TE} {t:TA} {pos:Pos}
def fV:PA X [] tH:=λ_ _ _ _ H Q I h=>Calls.spliced_nil ⟨[],H,I,.nil,h⟩
def bB(ha:PE X e te)(hr:PA X es t)(hs:starEach (e::es) X.env=(false,eval e X.env)::starEach es X.env:=by rfl):PA X (e::es) (rC te t):=by
 intro pos pins s σ H Q I h;rw[hs];show wpAny _ _ (spliced ((false,eval e X.env)::backTo pos (starEach es X.env))) _ _ s;refine Calls.spliced_cons (thn (ha pins s σ H _ I h) λu s1 ⟨x,H1,I1,r1,q1⟩=>?_);exact thn (hr pos pins s1 σ H1 _ I1 q1) λus s2 ⟨xs,H2,I2,r2,q2⟩=>{x::xs,H2,I2,.cons r1 r2,q2}
inductive Az(o:HO)(n:Nat)(H:Hp)(Q:VK):Prop
 | mk:n<=sizeLine->(∀p,H p=none->Q (.ref p) (upd H p o))->Az o n H Q
def CT(t:TA):TE:=λσ H Q=>t σ H λxs H1=>Az (.tup xs) xs.length H1 Q
def CU(t:TA):TE:=λσ H Q=>t σ H λxs H1=>Az (.lst xs) xs.length H1 Q
def qf{x1}(h:PA X es t):PE X (.Tuple es x1 pos) (CT t):=by
 intro pins s σ H Q I hq;refine wpAny_Tuple_spliced (thn (h pos pins s σ H _ I hq) λus s1 ⟨xs,H1,I1,r,z,q⟩=>⟨by rw[<- r.length];exact z,?_⟩);have hf:H1 s1.heap.objs.size=none:=I1.hok.fresh (Nat.le_refl _);refine {.ref s1.heap.objs.size,upd H1 s1.heap.objs.size (.tup xs),I1.laid (t':=s1.toks) (λb u e=>get?_push_of_some _ e) (Nat.le_refl _) ?_,rfl,q _ hf};exact {z,us,r,{_,get?_push_size _ rfl,rfl,_,rfl}}
def AF(h:PA X es t):PE X (.List es pos) (CU t):=by
 intro pins s σ H Q I hq;refine wpAny_List_spliced (thn (h pos pins s σ H _ I hq) λus s1 ⟨xs,H1,I1,r,z,q⟩=>⟨by rw[<- r.length];exact z,?_⟩);have hf:H1 s1.heap.objs.size=none:=I1.hok.fresh (Nat.le_refl _);refine {.ref s1.heap.objs.size,upd H1 s1.heap.objs.size (.lst xs),I1.laid (t':=s1.toks) (λb u e=>get?_push_of_some _ e) (Nat.le_refl _) ?_,rfl,q _ hf};exact {z,us,0,r,get?_push_size _ rfl}
end
abbrev Sp:=List V->Hp->VK->XK->Prop
abbrev CXT:=List Env->Hp->Shared->XK->Value->Shared->Prop
structure qg(P:Program)(w:World)(K:PySem.W.Frag)(mg:Str->Option Value)(base:Heap)(A:Around)(outer:List Env)(s:Shared)(H:Hp):Prop where
 frames:A.frames=some outer
 mod:Mod K mg base
 bs:∀b o,base.get? b=some o->s.heap.get? b=some o/\H b=none
 bsz:base.objs.size<=s.heap.objs.size
 funs:s.heap.FunFrames base outer
 frf:∀b∈frs outer,H b=none
 hok:HOk P w H s.heap
 bare:AllBare s.gens
def CE(outer:List Env)(P:Program)(w:World)(H:Hp)(s:Shared)(Q:VK)(u:Value)(s':Shared):Prop:=
 ∃v H',s'.os=s.os/\AllBare s'.gens/\Un (frs outer) [] H H' s.heap s'.heap/\HOk P w H' s'.heap/\av v u/\Q v H'
def CR(CX:CXT)(outer:List Env)(P:Program)(w:World)(H:Hp)(s:Shared)(Q:VK)(E:XK)(r:Result)(s':Shared):Prop:=
 match r with
 | .ok (.ret u)=>CE outer P w H s Q u s'
 | .ok _=>False
 | .error e=>CX outer H s E e s'
structure b9(P:Program)(w:World)(K:PySem.W.Frag)(mg:Str->Option Value)(base:Heap)(CX:CXT)(k:Nat)(f:Addr)(fd:FuncData)(ps:List Str)(sp:Sp):Prop where
 len:∀vs H Q E,sp vs H Q E->vs.length=ps.length
 run:∀(A:Around) (outer:List Env) (s:Shared) (H:Hp) (args:Args) (us:List Value) (vs:List V) (Q:VK) (E:XK),bi k A->qg P w K mg base A outer s H->BindsTo s fd args (ps.zip us)->aq vs us->sp vs H Q E->
  codeAny (model P w) A (.call (.ref f) args) (CR CX outer P w H s Q E) s
def qg.make{P:Program}{w:World}{K:PySem.W.Frag}{mg:Str->Option Value}{base:Heap}{A:Around}{outer:List Env}{s:Shared}{H:Hp}(e:qg P w K mg base A outer s H)(C:Addr)(us:List Value)(kw:List (Str×Value)):
  qg P w K mg base (A.under (.builtin "type.__call__" ⟨.ref C::us,kw⟩)) outer s H:=⟨by first | exact e.frames | (simpa[Around.under,Code.envs,Code.isFrame,pushEnvs] using e.frames),e.mod,e.bs,e.bsz,e.funs,e.frf,e.hok,e.bare⟩
section
variable {X:Cx} {pins:List (Addr×Obj)} {σ:St} {H:Hp} {s s':Shared}
def Inv.env0(I:Inv X pins σ H s):qg X.prog X.w X.K X.mg X.base X.A X.stack s H:=
 ⟨I.ok.frames,I.ok.mod,I.bs,Nat.le_trans I.ok.bsz I.sz,I.stack,I.stkFree,I.hok,I.bare⟩
def Inv.after{Q:VK}{u:Value}(I:Inv X pins σ H s)(h:CE X.stack X.prog X.w H s Q u s'):EP X pins σ Q u s':=by
 obtain ⟨v,H',os,bare,un,hok,r,q⟩:=h;obtain ⟨hh,g,d,t,os'⟩:=s';obtain rfl:os'=s.os:=os;exact {v,H',I.call (h':=hh) (g':=g) (d':=d) (t':=t) (ch:=[]) un hok bare (λb z=>absurd z (by simp)),r,q}
end
def uX(sp:Sp)(dvs:List V)(E:XK)(t:TA):TE:=λσ H Q=>t σ H λvs H1=>sp (vs++dvs) H1 Q E
inductive iMe(C:Addr)(m:Str)(x:V)(H:Hp)(R:Prop):Prop
 | mk (a:_) (dx:_) (fs:List (Str×V)):x=.ref a->H a=some (.ins C dx fs)->fs.lookup m=none->R->iMe C m x H R
def oy(C:Addr)(m:Str)(sp:Sp)(dvs:List V)(E:XK)(ta:TE)(t:TA):TE:=λσ H Q=>ta σ H λx H1=>iMe C m x H1 (t σ H1 λvs H2=>sp (x::(vs++dvs)) H2 Q E)
def zB(C:Addr)(sp:Sp)(dvs:List V)(E:XK)(t:TA):TE:=λσ H Q=>t σ H λvs H1=>∀x dx,H1 x=none->H1 dx=none->dx≠x->
 sp (.ref x::(vs++dvs)) (upd (upd H1 dx (.own x)) x (.ins C dx [])) (λv H2=>v=.non/\Q (.ref x) H2) E
def bF(K:PySem.W.Frag)(fd:FuncData)(ps:List Str)(ds:List Value):Prop:=
 ∀(s:Shared) (us:List Value),K.In s.heap->(us++ds).length=ps.length->BindsTo s fd ⟨us,[]⟩ (ps.zip (us++ds))
def bF.all{K:PySem.W.Frag}{fd:FuncData}{ps:List Str}(h:∀us:List Value,us.length=ps.length->bindArgs fd ⟨us,[]⟩=pure (ps.zip us)):bF K fd ps []:=λs us _ hl=>by
 rw[append_nil] at hl ⊢;exact .of_eq (h us hl)
def eB(CX:CXT)(X:Cx)(E:XK):Prop:=∀(pins:List (Addr×Obj)) (σ:St) (H:Hp) (s:Shared) (e:Value) (s':Shared),Inv X pins σ H s->CX X.stack H s E e s'->X.xe e s'
section
variable {X:Cx} {CX:CXT} {k:Nat} {f C:Addr} {fd:FuncData} {ps:List Str} {sp:Sp} {dvs:List V} {ds:List Value} {E:XK} {x m:Str} {p pos apos:Pos} {e o:Expr} {es:List Expr} {ta:TE} {t:TA}
def qh{pins:List (Addr×Obj)}{σ:St}{H:Hp}{s:Shared}{Q:VK}{us:List Value}{vs:List V}(F:b9 X.prog X.w X.K X.mg X.base CX k f fd ps sp)(hr:bi k X.A)(hb:bF X.K fd ps ds)(hd:aq dvs ds)(hx:eB CX X E)
  (I:Inv X pins σ H s) (r:aq vs us) (h:sp (vs++dvs) H Q E):wpAny (model X.prog X.w) X.A (call (.ref f) us) (EP X pins σ Q) X.xe s:=by
 have r2:aq (vs++dvs) (us++ds):=r.append hd;have hl:(us++ds).length=ps.length:=by rw[<- r2.length];exact F.len _ _ _ _ h
 refine wpAny_call (codeAny_mono (F.run X.A X.stack s H {us,[]} (us++ds) (vs++dvs) Q E hr I.env0 (hb s us I.kIn hl) r2 h) λr s' hq=>?_);cases r with
 | error e=>exact hx pins σ H s e s' I hq
 | ok fl=>
  cases fl with
  | ret u=>exact I.after hq
  | next=>exact False.elim hq
  | brk=>exact False.elim hq
  | cont=>exact False.elim hq
def x3(F:b9 X.prog X.w X.K X.mg X.base CX k f fd ps sp)(hr:bi k X.A)(hg:Gl X x)(hm:X.mg x=some (.ref f))(hk:keepIn X.K (.ref f)=true)(hb:bF X.K fd ps ds)(hd:aq dvs ds)(hx:eB CX X E)
  (ha:PA X (e::es) t) (hdb:(x==("__debug__":Str))=false:=by decide) (he:starEach (e::es) X.env=(false,eval e X.env)::starEach es X.env:=by rfl) (hpl:(backTo pos (starEach es X.env)).any (·.1)=false:=by rfl):
  PE X (.Call (.Name x p) (e::es) [] pos) (uX sp dvs E t):=by
 intro pins s σ H Q I h;refine wpAny_Call_Name_kw (fi I hg hm ?_ hdb);refine callWith_K (h₀:=X.base) I.ok.mod.kin hk (thn (ha pos pins s σ H _ I h) λus s1 ⟨vs,H1,I1,r,q⟩=>{I1.kIn,?_}) he hpl;exact qh F hr hb hd hx I1 r q
def rD{pl:Sem Bool}(he:PE X o ta)(c:Cls X.K C)(hm:uW X.K C m f)(F:b9 X.prog X.w X.K X.mg X.base CX k f fd ps sp)(hr:bi k X.A)(hb:bF X.K fd ps ds)(hd:aq dvs ds)(hx:eB CX X E)(ha:PA X (e::es) t)
  (hst:starEach (e::es) X.env=(false,eval e X.env)::starEach es X.env:=by rfl) (hpl:(backTo pos (starEach es X.env)).any (·.1)=false:=by rfl)
  (ht:eval (.Call (.Attribute o m apos) (e::es) [] pos) X.env=(do
   let ov <- eval o X.env
   standAt apos.atName
   let (f,first) <- holding [ov] (getMethod ov m pl)
   callWith pos f first (backTo pos (starEach (e::es) X.env)) (backToKw pos (keywordEach [] X.env))):=by rfl):
  PE X (.Call (.Attribute o m apos) (e::es) [] pos) (oy C m sp dvs E ta t):=by
 intro pins s σ H Q I h;refine methodCall_KW (pl:=pl) (thn (he pins s σ H _ I h) λu s1 ⟨x,H1,I1,rx,a,dx,fs,ex,ea,l,q⟩=>?_) ht;subst ex;obtain rfl:u=Value.ref a:=rx;refine iu I1 ea c hm l ?_;refine callWith_K (first:=[.ref a]) (h₀:=X.base) I.ok.mod.kin hm.kp (thn (ha pos pins s1 σ H1 _ I1 q) λus s2 ⟨vs,H2,I2,r,q2⟩=>{I2.kIn,?_}) hst hpl;exact qh (us:=.ref a::us) (vs:=.ref a::vs) F hr hb hd hx I2 (.cons rfl r) q2
def uY{pl:Sem Bool}(he:PE X o ta)(c:Cls X.K C)(hm:uW X.K C m f)(F:b9 X.prog X.w X.K X.mg X.base CX k f fd ps sp)(hr:bi k X.A)(hb:bF X.K fd ps ds)(hd:aq dvs ds)(hx:eB CX X E)
  (ht:eval (.Call (.Attribute o m apos) [] [] pos) X.env=(do
   let ov <- eval o X.env
   standAt apos.atName
   let (f,first) <- holding [ov] (getMethod ov m pl)
   callWith pos f first (backTo pos (starEach [] X.env)) (backToKw pos (keywordEach [] X.env))):=by rfl):
  PE X (.Call (.Attribute o m apos) [] [] pos) (oy C m sp dvs E ta tH):=by
 intro pins s σ H Q I h;refine methodCall_KW (pl:=pl) (thn (he pins s σ H _ I h) λu s1 ⟨x,H1,I1,rx,a,dx,fs,ex,ea,l,q⟩=>?_) ht;subst ex;obtain rfl:u=Value.ref a:=rx;refine iu I1 ea c hm l ?_;exact PySem.W.callWith_K0 (first:=[.ref a]) I1.kIn hm.kp (qh (us:=[.ref a]) (vs:=[.ref a]) F hr hb hd hx I1 (.cons rfl .nil) q)
structure Mk(K:PySem.W.Frag)(C f:Addr):Prop where
 makes:makesIn K C=true
 init:PySem.W.findIn K (.ref C) "__init__"=some (some (.ref f))
 fn:isFn K (.ref f)=true
 kp:keepIn K (.ref C)=true
def uZ{pins:List (Addr×Obj)}{σ:St}{H:Hp}{s:Shared}{Q:VK}{us:List Value}{vs:List V}(M:Mk X.K C f)(F:b9 X.prog X.w X.K X.mg X.base CX k f fd ps sp)(hr:bi (k+1) X.A)(hb:bF X.K fd ps ds)(hd:aq dvs ds)
  (hx:eB CX X E) (I:Inv X pins σ H s) (r:aq vs us)
  (h:∀x dx,H x=none->H dx=none->dx≠x->sp (.ref x::(vs++dvs)) (upd (upd H dx (.own x)) x (.ins C dx [])) (λv H2=>v=.non/\Q (.ref x) H2) E):
  wpAny (model X.prog X.w) X.A (call (.ref C) us) (EP X pins σ Q) X.xe s:=by
 have hq:=h (s.heap.objs.size+1) s.heap.objs.size (I.hok.fresh (le_succ _)) (I.hok.fresh (Nat.le_refl _)) (Nat.ne_of_lt (lt_succ_self _));have I2:=Inv.made (C:=C) I;have r2:aq (V.ref (s.heap.objs.size+1)::(vs++dvs)) (Value.ref (s.heap.objs.size+1)::(us++ds)):=.cons rfl (r.append hd);have hl:(Value.ref (s.heap.objs.size+1)::us++ds).length=ps.length:=by
  have e:=r2.length;rw[F.len _ _ _ _ hq] at e;exact e.symm
 refine wpAny_call (uV (f:=f) I.kIn M.makes M.init (beq_iff_eq.mp M.fn) (codeAny_mono (F.run _ X.stack _ _ {Value.ref (s.heap.objs.size+1)::us,[]} (Value.ref (s.heap.objs.size+1)::(us++ds)) _ _ E (hr.make C us [])
  (I2.env0.make C us []) (hb _ (Value.ref (s.heap.objs.size+1)::us) I2.kIn hl) r2 hq) λr s' hq'=>?_))
 cases r with
 | error e=>exact hx pins σ _ _ e s' I2 hq'
 | ok fl=>
  cases fl with
  | ret u=>
   obtain ⟨v,H',I3,rv,ev,q3⟩:=I2.after hq';subst ev;exact {rv,{V.ref (s.heap.objs.size+1),H',I3,rfl,q3}}
  | next=>exact False.elim hq'
  | brk=>exact False.elim hq'
  | cont=>exact False.elim hq'
def x4(M:Mk X.K C f)(F:b9 X.prog X.w X.K X.mg X.base CX k f fd ps sp)(hr:bi (k+1) X.A)(hg:Gl X x)(hm:X.mg x=some (.ref C))(hb:bF X.K fd ps ds)(hd:aq dvs ds)(hx:eB CX X E)
  (ha:PA X (e::es) t) (hdb:(x==("__debug__":Str))=false:=by decide) (he:starEach (e::es) X.env=(false,eval e X.env)::starEach es X.env:=by rfl) (hpl:(backTo pos (starEach es X.env)).any (·.1)=false:=by rfl):
  PE X (.Call (.Name x p) (e::es) [] pos) (zB C sp dvs E t):=by
 intro pins s σ H Q I h;refine wpAny_Call_Name_kw (fi I hg hm ?_ hdb);refine callWith_K (h₀:=X.base) I.ok.mod.kin M.kp (thn (ha pos pins s σ H _ I h) λus s1 ⟨vs,H1,I1,r,q⟩=>{I1.kIn,?_}) he hpl;exact uZ M F hr hb hd hx I1 r q
end
section
variable {X:Cx} {CX:CXT} {k:Nat} {f C:Addr} {fd:FuncData} {ps ks:List Str} {sp:Sp} {E:XK} {x m:Str} {p pos apos kpos:Pos} {e o:Expr} {es:List Expr} {kws:List Keyword} {te ta:TE} {t tk:TA} {nm:Option Str}
variable {g:List Value->List Value->List Value} {gV:List V->List V->List V}
end
structure ak(N P:List Str)(sc:Scope):Prop where
 kind:sc.kind=.function
 co:sc.isCoroutine=false
 gen:sc.isGenerator=false
 nd:N.Nodup
 pre:N.take P.length=P
 par:∀x∈P,sc.names.lookup x=some .local\/sc.names.lookup x=some .cell
 nofree:∀y∈sc.names,y.2≠.free
def mq{kindOf:Str->Option NameKind}{x:Str}:∀{binds:List (Str×Value)} {m:Str->Option Value},(∀v,(x,v)∉binds)->bindL kindOf binds m x=m x
 | [],_,_=>rfl
 | (n,v)::r,m,h=>by
  unfold bindL;rw[mq λw hw=>h w (mem_cons_of_mem _ hw)]
  split
  ·have:x≠n:=by rintro rfl;exact h v mem_cons_self
   simp[this]
  ·rfl
def mt{kindOf:Str->Option NameKind}{x:Str}:∀{binds:List (Str×Value)} {m:Str->Option Value},(∀v,(x,v)∉binds)->bindC kindOf binds m x=m x
 | [],_,_=>rfl
 | (n,v)::r,m,h=>by
  unfold bindC;rw[mt λw hw=>h w (mem_cons_of_mem _ hw)]
  split
  ·rfl
  ·have:x≠n:=by rintro rfl;exact h v mem_cons_self
   simp[this]
def mw{kindOf:Str->Option NameKind}{x:Str}{v:Value}:∀{P:List Str} {vs:List Value} {i:Nat} {m:Str->Option Value},P.Nodup->P[i]?=some x->vs[i]?=some v->kindOf x=some .local->
  bindL kindOf (P.zip vs) m x=some v
 | [],_,_,_,_,h,_,_=>by simp at h
 | _::_,[],_,_,_,_,h,_=>by simp at h
 | p::P,w::vs,0,m,nd,h1,h2,hk=>by
  simp at h1 h2;subst h1;subst h2;show bindL kindOf ((p,w)::P.zip vs) m p=_;unfold bindL;rw[mq λv hv=>(nodup_cons.mp nd).1 (List.of_mem_zip hv).1,if_pos hk];simp
 | p::P,w::vs,i+1,m,nd,h1,h2,hk=>by
  show bindL kindOf ((p,w)::P.zip vs) m x=_;unfold bindL;exact mw (i:=i) (nodup_cons.mp nd).2 (by simpa using h1) (by simpa using h2) hk
def my{kindOf:Str->Option NameKind}{x:Str}{v:Value}:∀{P:List Str} {vs:List Value} {i:Nat} {m:Str->Option Value},P.Nodup->P[i]?=some x->vs[i]?=some v->kindOf x≠some .local->
  bindC kindOf (P.zip vs) m x=some v
 | [],_,_,_,_,h,_,_=>by simp at h
 | _::_,[],_,_,_,_,h,_=>by simp at h
 | p::P,w::vs,0,m,nd,h1,h2,hk=>by
  simp at h1 h2;subst h1;subst h2;show bindC kindOf ((p,w)::P.zip vs) m p=_;unfold bindC;rw[mt λv hv=>(nodup_cons.mp nd).1 (List.of_mem_zip hv).1,if_neg hk];simp
 | p::P,w::vs,i+1,m,nd,h1,h2,hk=>by
  show bindC kindOf ((p,w)::P.zip vs) m x=_;unfold bindC;exact my (i:=i) (nodup_cons.mp nd).2 (by simpa using h1) (by simpa using h2) hk
def start(N:List Str)(vs:List V):St:=vs.map some++List.replicate (N.length-vs.length) none
def jg(CX:CXT)(P:Program)(w:World)(K:PySem.W.Frag)(mg:Str->Option Value)(base:Heap)(N:List Str)(qual:Str)(scope:Scope)(f:Addr)(cd:Value)(A:Around)(outer:List Env)(s:Shared)(H:Hp)(E:XK):Cx where
 prog:=P
 w:=w
 K:=K
 mg:=mg
 base:=base
 A:=A.deeper (envOfC qual scope s.heap.objs.size f cd)
 N:=N
 s₀:=s
 H₀:=H
 env:=envOfC qual scope s.heap.objs.size f cd
 outer:=outer
 stack:=envOfC qual scope s.heap.objs.size f cd::outer
 ex:=[]
 calm:=true
 fn:=λ_=>true
 pn:=[]
 xe:=λe s'=>wpAny (model P w) (A.deeper (envOfC qual scope s.heap.objs.size f cd)) (leaving (envOfC qual scope s.heap.objs.size f cd) e) (λ_ s''=>CX outer H s E e s'') (λe' s''=>CX outer H s E e' s'') s'
def oz{sc:Scope}{n:Nat}{x:Str}(h:sc.names.lookup x=some .cell):∃c,(cellsFrom n sc.names []).lookup x=some c:=by
 have q:=PySem.W.cellsFrom_some sc.names n [] (.inl h);exact Option.isSome_iff_exists.mp q
def tI{CX:CXT}{P:Program}{w:World}{K:PySem.W.Frag}{mg:Str->Option Value}{base:Heap}{N ps:List Str}{qual:Str}{scope:Scope}{f:Addr}{cd:Value}{A:Around}{outer:List Env}{s s1:Shared}{H:Hp}{E:XK}{us:List Value}{vs:List V}
  (S:ak N ps scope) (hd:A.handled=none) (e0:qg P w K mg base A outer s H) (hl:vs.length=ps.length) (r:aq vs us)
  (x:InCallC s s.heap.objs.size (bindL (envOfC qual scope s.heap.objs.size f cd).kindOf (ps.zip us) λ_=>none) (cellsFrom (s.heap.objs.size+1) scope.names []) (bindC (envOfC qual scope s.heap.objs.size f cd).kindOf (ps.zip us) λ_=>none) s1):
  Inv (jg CX P w K mg base N qual scope f cd A outer s H E) [] (start N vs) H s1:=by
 have hpl:ps.length<=N.length:=by have:=congrArg List.length S.pre;rw[length_take] at this;omega
 obtain ⟨h1,tk,rfl,hk⟩:=x.done;have noA:∀b:Addr,b∉(jg CX P w K mg base N qual scope f cd A outer s H E).ex:=λb z=>absurd (show b∈([]:List Addr) from z) (by simp);refine ⟨{e0.mod,S.kind,rfl,rfl,Nat.le_refl _,λy z c h1 h2=>?_,λy hy=>?_,λy c _ h=>?_,λ_=>hd,Around.frames_deeper e0.frames,.inr ⟨rfl,rfl⟩,λb z=>absurd z (noA b),e0.bs,e0.bsz,λb _ _=>noA b,λb z=>absurd z (noA b),e0.funs,e0.frf},
  rfl,e0.bare,Un.kept hk,⟨_,x.toInCall.ns,λi y v h1 h2 h3=>?_⟩,λy c h=>⟨_,x.cell y c h⟩,e0.hok.fresh (Nat.le_refl _),λy c h=>?_,λp hp=>absurd (show p∈([]:List (Addr×Obj)) from hp) (by simp),e0.hok.kept hk,?_⟩
 ·exact name_of_addr x.apart (PySem.mem_of_lookup h1) (PySem.mem_of_lookup h2)
 ·have hy:scope.names.lookup y=some .cell\/scope.names.lookup y=some .free:=hy
  rcases hy with hy | hy
  ·exact oz hy
  ·exact absurd rfl (S.nofree _ (PySem.mem_of_lookup hy))
 ·exact Nat.le_of_lt (x.above y c (PySem.mem_of_lookup h))
 ·have hi:i<vs.length:=by
   unfold start at h2
   by_cases hi:i<vs.length
   ·exact hi
   ·rw[getElem?_append_right (by simpa using hi)] at h2
    rw[getElem?_replicate] at h2
    split at h2<;>cases h2
  have ha:vs[i]?=some v:=by
   unfold start at h2;rw[getElem?_append_left (by simpa using hi),getElem?_map] at h2;cases e:vs[i]? with
   | none=>rw[e] at h2;cases h2
   | some a=>rw[e] at h2;cases h2;rfl
  obtain ⟨u,hu,rv⟩:=r.get ha;have hp:ps[i]?=some y:=by
   rw[<- S.pre,List.getElem?_take_of_lt ()];exact h1
  have ndP:ps.Nodup:=by rw[<- S.pre];exact S.nd.sublist (List.take_sublist _ _)
  refine {u,rv,?_};rcases S.par y (mem_of_getElem? hp) with k | k
  ·exact .inl {k,mw ndP hp hu k}
  ·obtain ⟨c,e⟩:=oz (n:=s.heap.objs.size+1) k
   refine .inr {.inl k,c,e,?_};have q:=x.cell y c e;rw[my ndP hp hu (by show scope.names.lookup y≠_;rw[k];decide)] at q;exact q
 ·exact e0.hok.fresh (Nat.le_of_lt (x.above y c (PySem.mem_of_lookup h)))
 ·unfold start
  show _=N.length;rw[length_append,length_map,length_replicate];omega
def u4{CX:CXT}{P:Program}{w:World}{K:PySem.W.Frag}{mg:Str->Option Value}{base:Heap}{k:Nat}{f:Addr}{name qual:Str}{params:Arguments}{body:List Stmt}{scope:Scope}{dV kV doc pm cdv ct oc:Value}{an od:Option Addr}
  {osl:Array (Option Value)} {N ps:List Str} {sp:Sp} (lk:K.lookup f=some ⟨oc,od,.func (fnOf name qual params body scope dV kV doc pm an cdv ct),osl⟩) (hcd:codeIn K cdv qual=true) (S:ak N ps scope)
  (len:∀vs H Q E,sp vs H Q E->vs.length=ps.length)
  (hbody:∀(A:Around) (outer:List Env) (s:Shared) (H:Hp) (vs:List V) (Q:VK) (E:XK),bi k (A.deeper (envOfC qual scope s.heap.objs.size f cdv))->sp vs H Q E->
   ∃t,PSs (jg CX P w K mg base N qual scope f cdv A outer s H E) body t/\t { nx:=λ_ H'=>Q .non H',rt:=Q } (start N vs) H):
  b9 P w K mg base CX (k+1) f (fnOf name qual params body scope dV kV doc pm an cdv ct) ps sp:=by
 refine {len,λA outer s H args us vs Q E hr e0 hb r hsp=>?_};have hl:=len _ _ _ _ hsp;have KX:K.In s.heap:=e0.mod.kin.keeps λb o e=>(e0.bs b o e).1;have lim:s.heap.NoLimit:=e0.mod.nolimit.keeps λb o e=>(e0.bs b o e).1;have hkind:∀y∈ps.zip us,scope.names.lookup y.1=some .local\/(scope.names.lookup y.1=some .cell/\((cellsFrom (s.heap.objs.size+1) scope.names []).lookup y.1).isSome=true):=λ⟨n,v⟩ hy=>by
  rcases S.par n (List.of_mem_zip hy).1 with q | q
  ·exact .inl q
  ·exact .inr {q,PySem.W.cellsFrom_some _ _ _ (.inl q)}
 refine codeAny_call_function hr.depth (KX _ _ lk) rfl S.co S.gen rfl (PySem.W.codeRec_of KX hcd) (hb _ _ _ _ ?_);refine wpAny_newFunctionEnv_cells S.kind hkind λenv he s1 x=>?_;subst he;refine {lim.keeps x.toInCall.keep,codeAny_func ?_};obtain ⟨t,ht,hq⟩:=hbody A outer s H vs Q E (hr.deeper _) hsp;have I:Inv (jg CX P w K mg base N qual scope f cdv A outer s H E) [] (start N vs) H s1:=tI S hr.hd e0 hl r x;refine wpAny_mono (ht [] s1 (start N vs) H _ I hq) (λfl s' hs=>?_) λe s' hs=>hs;have fin:∀{σ':St} {H':Hp} {v:V} {u:Value},Inv (jg CX P w K mg base N qual scope f cdv A outer s H E) [] σ' H' s'->av v u->Q v H'->CE outer P w H s Q u s':=
  λ{σ' H' v u} J rv q=>⟨v,H',J.os,J.bare,J.base,J.hok,rv,q⟩
 cases fl with
 | ret u=>
  obtain ⟨v,σ',H',J,rv,q⟩:=hs;exact fin J rv q
 | next=>
  obtain ⟨σ',H',J,q⟩:=hs;exact fin (v:=V.non) (u:=Value.none) J rfl q
 | brk=>
  obtain ⟨_,_,_,q⟩:=hs;exact False.elim q
 | cont=>
  obtain ⟨_,_,_,q⟩:=hs;exact False.elim q
section
variable {X:Cx} {x:Str} {p pos:Pos} {e:Expr} {es:List Expr} {t:TA} {id T:String} {r:List V->Hp->VK->Prop}
def tCB(r:List V->Hp->VK->Prop)(t:TA):TE:=λσ H Q=>t σ H λvs H1=>r vs H1 Q
def bG (hc:aV X (.builtin id) r) (hg:Gl X x) (hm:X.mg x=none) (hv:bootBuiltins x=some (.builtin id)) (ha:PA X (e::es) t) (hn:x ≠ "__name__":=by decide) (hdb:(x==("__debug__":Str))=false:=by decide)
  (he:starEach (e::es) X.env=(false,eval e X.env)::starEach es X.env:=by rfl) (hpl:(backTo pos (starEach es X.env)).any (·.1)=false:=by rfl):PE X (.Call (.Name x p) (e::es) [] pos) (tCB r t):=by
 intro pins s σ H Q I h;refine wpAny_Call_Name_kw (du I hg hm hv ?_ hn hdb);exact PyProof.Rows.callWith_builtin1 (thn (ha pos pins s σ H _ I h) λus s1 ⟨vs,H1,I1,r1,q1⟩=>hc pins s1 σ H1 vs us Q I1 r1 q1) he hpl
def dn (hc:aV X (.type T) r) (hg:Gl X x) (hm:X.mg x=none) (hv:bootBuiltins x=some (.type T)) (ha:PA X (e::es) t) (hn:x ≠ "__name__":=by decide) (hdb:(x==("__debug__":Str))=false:=by decide)
  (he:starEach (e::es) X.env=(false,eval e X.env)::starEach es X.env:=by rfl) (hpl:(backTo pos (starEach es X.env)).any (·.1)=false:=by rfl):PE X (.Call (.Name x p) (e::es) [] pos) (tCB r t):=by
 intro pins s σ H Q I h;refine wpAny_Call_Name_kw (du I hg hm hv ?_ hn hdb);exact PyProof.Rows.callWith_type1 (thn (ha pos pins s σ H _ I h) λus s1 ⟨vs,H1,I1,r1,q1⟩=>hc pins s1 σ H1 vs us Q I1 r1 q1) he hpl
end
end L2
namespace HT
open PySem PyProof.Rows
section
open PySem.SeqAt
open PySem.AutoSeq1 (wpAny_loadPart')
open PySem.MeetsSeq PySem.MeetsSeq2 PySem.MeetsSeq3
end
section
variable {prog:Program} {w:World} {A:Around} {E:Value->Shared->Prop} {s:Shared}
def cat_tup{t b:Addr}{vs ws:List Value}{Q:Value->Shared->Prop}(ht:IsTup s.heap t vs.toArray)(hb:IsTup s.heap b ws.toArray)(hv:vs≠[])
  (h1:ws=[]->Q (.ref t) s) (h2:ws≠[]->Q (.ref s.heap.objs.size) { s with heap:=s.heap.push { cls:=.type "tuple",data:=.seq (vs++ws).toArray } })
  (hsz:vs.length+ws.length<=sizeLine):wpAny (model prog w) A (binaryOp .Add (.ref t) (.ref b)) Q E s:=by
 obtain ⟨⟨cls,dd,data,sl⟩,ho,hc,n,hd⟩:=id ht;obtain ⟨⟨cls2,dd2,data2,sl2⟩,ho2,hc2,n2,hd2⟩:=id hb;simp only at hc hd hc2 hd2;subst hc hd hc2 hd2;have e:vs.toArray++ws.toArray=(vs++ws).toArray:=by simp
 by_cases hw:ws=[]
 ·exact concat_meets {_,ho,rfl} {_,ho2,rfl} noFill_tuple_add seq_tuple_add PySem.F.slot_tuple_add PySem.F.entry_tuple_add (PySem.F.args_tuple_add_2 _ _)
   (tuple_addW1 t b vs.toArray ws.toArray n n2 dd dd2 sl sl2 (by simpa using hv) (by simp[hw])) ⟨ho,ho2,h1 hw⟩
 ·refine concat_meets {_,ho,rfl} {_,ho2,rfl} noFill_tuple_add seq_tuple_add PySem.F.slot_tuple_add PySem.F.entry_tuple_add (PySem.F.args_tuple_add_2 _ _)
   (tuple_addW2 t b vs.toArray ws.toArray n n2 dd dd2 sl sl2 (by simpa using hv) (by simpa using hw) (by rw[size_toArray,size_toArray];exact hsz)) {ho,ho2,?_}
  rw[e];exact h2 hw
def sIx(n d:Nat):Option Int->Nat
 | none=>d
 | some v=>if v<0 then (v+(n:Int)).toNat else min v.toNat n
def sIx_none(n d:Nat):sIx n d none=d:=rfl
def sIx_nat(n d k:Nat):sIx n d (some (k:Int))=min k n:=by
 show (if (k:Int)<0 then ((k:Int)+(n:Int)).toNat else min (k:Int).toNat n)=min k n;rw[if_neg (),toNat_natCast]
end
end HT
namespace L2
open PySem PySem.Spec PyProof.Rows
abbrev TO:=St->Hp->(Option Int->Hp->Prop)->Prop
def PO(X:Cx)(e:Option Expr)(t:TO):Prop:=
 ∀(pins:List (Addr×Obj)) (s:Shared) (σ:St) (H:Hp) (Q:Option Int->Hp->Prop),Inv X pins σ H s->t σ H Q->
  wpAny (model X.prog X.w) X.A (evalPart e X.env) (λu s'=>∃o H',Inv X pins σ H' s'/\IsPart u o/\Q o H') X.xe s
def x5:TO:=λ_ H Q=>Q none H
def BU(t:TE):TO:=λσ H Q=>t σ H λx H1=>∃i,x=.int i/\Q (some i) H1
def fm{ns:List Int}:∀{us:List Value},aq (ns.map V.int) us->IntsAre us ns:=by
 induction ns with
 | nil=>intro us r;rw[map_nil] at r;cases r;exact .nil
 | cons n ns ih=>
  intro us r;rw[map_cons] at r;cases r with
  | cons r1 r2=>
   obtain ⟨t,e⟩:=r1;subst e;exact .cons n t (ih r2)
section
variable {X:Cx} {e:Expr} {te:TE} {lo hi:Option Expr} {tl th:TO} {pos p2:Pos}
def rE:PO X none x5:=by
 intro pins s σ H Q I h;rw[evalPart_none];exact wpAny_pure {none,H,I,.none,h}
def x6(h:PE X e te):PO X (some e) (BU te):=by
 intro pins s σ H Q I hw;rw[evalPart_some];refine thn (h pins s σ H _ I hw) λu s1 ⟨x,H1,I1,r1,q1⟩=>?_;obtain ⟨i,rfl,q⟩:=q1;obtain ⟨t,rfl⟩:=r1;exact {some i,H1,I1,.int i t,q}
def SlR(X:Cx)(r:V->Option Int->Option Int->Hp->VK->Prop):Prop:=
 ∀(pins:List (Addr×Obj)) (s:Shared) (σ:St) (H:Hp) (x:V) (v vl vu:Value) (lo hi:Option Int) (sl:Addr) (Q:VK),Inv X pins σ H s->av x v->s.heap.IsSliceOf sl vl vu .none->IsPart vl lo->IsPart vu hi->r x lo hi H Q->
  ∃T id,typeLookup (.type T) "__getitem__"=pure (some (.builtin id))/\s.TypeIs v T/\wpAny (model X.prog X.w) X.A (getItem v (.ref sl)) (EP X pins σ Q) X.xe s
def tSl(r:V->Option Int->Option Int->Hp->VK->Prop)(te:TE)(tl th:TO):TE:=λσ H Q=>te σ H λx H1=>tl σ H1 λl H2=>th σ H2 λu H3=>r x l u H3 Q
def u5{r:V->Option Int->Option Int->Hp->VK->Prop}(hr:SlR X r)(he:PE X e te)(hl:PO X lo tl)(hu:PO X hi th):PE X (.Subscript e (.Slice lo hi none p2) pos) (tSl r te tl th):=by
 intro pins s σ H Q I h;refine Subscript_ (thn (he pins s σ H _ I h) λv s1 ⟨x,H1,I1,r1,q1⟩=>?_);refine wpAny_Slice (thn (hl pins s1 σ H1 _ I1 q1) λvl s2 ⟨l,H2,I2,pl,q2⟩=>thn (hu pins s2 σ H2 _ I2 q2) λvu s3 ⟨u,H3,I3,pu,q3⟩=>?_);rw[evalPart_none];refine wpAny_pure ?_;have I4:Inv X pins σ H3 { s3 with heap:=s3.heap.push { cls:=.type "slice",data:=.fields #[vl,vu,.none] } }:=I3.kept (t':=s3.toks) λb ob q=>get?_push_of_some _ q;obtain ⟨T,id,hT,ht,hg⟩:=hr pins { s3 with heap:=s3.heap.push { cls:=.type "slice",data:=.fields #[vl,vu,.none] } } σ H3 x v vl vu l u s3.heap.objs.size Q I4 r1 (Heap.IsSliceOf.new ..) pl pu q3
 show wpAny (model X.prog X.w) X.A (subscriptTail e (.Slice lo hi none p2) v (.ref s3.heap.objs.size)) (EP X pins σ Q) X.xe { s3 with heap:=s3.heap.push { cls:=.type "slice",data:=.fields #[vl,vu,.none] } };exact tail_any (ops:=[.ref s3.heap.objs.size,v]) ht hT hg (by with_unfolding_all rfl)
def dv(xs:List V)(lo hi:Option Int):List V:=(xs.drop (HT.sIx xs.length 0 lo)).take (HT.sIx xs.length xs.length hi-HT.sIx xs.length 0 lo)
def oB(xs:List V)(lo hi:Option Int):(dv xs lo hi).length<=xs.length:=by
 unfold dv;rw[length_take,length_drop];omega
def BV(K:PySem.W.Frag):R2:=λx y H Q=>∃a b xs ys,x=.ref a/\y=.ref b/\SqT K H a xs/\SqT K H b ys/\xs≠[]/\xs.length+ys.length<=sizeLine /\
 (ys=[]->Q (.ref a) H)/\(ys≠[]->∀p,H p=none->Q (.ref p) (upd H p (.tup (xs++ys))))
def aq.nil_iff{xs:List V}{us:List Value}(r:aq xs us):us=[]↔xs=[]:=by
 cases r with
 | nil=>simp
 | cons _ _=>simp
def x8:OpR X (binaryOp .Add) (BV X.K):=by
 intro pins s σ H x y v u Q I rx ry h;obtain ⟨a,b,xs,ys,rfl,rfl,ha,hb,hx,hz,q1,q2⟩:=h;cases rx;cases ry;obtain ⟨its,r1,p1,_⟩:=I.tuple ha;obtain ⟨its2,r2,p2,_⟩:=I.tuple hb;refine HT.cat_tup p1 p2 (λz=>hx (r1.nil_iff.mp z)) (λz=>{.ref a,H,I,rfl,q1 (r2.nil_iff.mp z)}) (λz=>?_) (by rw[<- r1.length,<- r2.length];exact hz);refine {.ref s.heap.objs.size,_,I.laid (t':=s.toks) (o:=.tup (xs++ys)) (λb ob q=>get?_push_of_some _ q) (Nat.le_refl _) ?_,rfl,q2 (λw=>z (r2.nil_iff.mpr w)) _ (I.hok.fresh (Nat.le_refl _))};exact ⟨by rw[length_append];exact hz,_,r1.append r2,IsTup.new _ _⟩
end
def ixN(n:Nat)(i:Int):Option Nat:=if 0<=i then (if i<n then some i.toNat else none) else if -(n:Int)<=i then some (i+n).toNat else none
def atI{α:Type}(xs:List α)(i:Int):Option α:=(ixN xs.length i).bind λj=>xs[j]?
def rF{n:Nat}{i:Int}{j:Nat}(h:ixN n i=some j):seqIndex? i n=some j/\j<n/\-(n:Int)<=i/\i<n:=by
 unfold ixN at h
 by_cases h0:0<=i
 ·rw[if_pos h0] at h
  by_cases h1:i<n
  ·rw[if_pos h1] at h
   have e:i.toNat=j:=Option.some.inj h;exact ⟨by rw[seqIndex_of h0 h1,e],(),(),h1⟩
  ·rw[if_neg h1] at h;cases h
 ·rw[if_neg h0] at h
  by_cases h1:-(n:Int)<=i
  ·rw[if_pos h1] at h
   have e:(i+n).toNat=j:=Option.some.inj h;exact ⟨by rw[seqIndex_neg () h1,e],(),h1,()⟩
  ·rw[if_neg h1] at h;cases h
def rG{α:Type}{xs:List α}{i:Int}{v:α}(h:atI xs i=some v):∃j,seqIndex? i xs.length=some j/\xs[j]?=some v/\j<xs.length/\-(xs.length:Int)<=i/\i<xs.length:=by
 unfold atI at h;cases e:ixN xs.length i with
 | none=>rw[e] at h;cases h
 | some j=>
  rw[e] at h;obtain ⟨h1,h2,h3,h4⟩:=rF e;exact ⟨j,h1,h,h2,h3,h4⟩
def am{α:Type}{xs:List α}{j:Nat}{v:α}(h:xs[j]?=some v):atI xs (j:Int)=some v:=by
 have hj:j<xs.length:=(List.getElem?_eq_some_iff.mp h).1;have e:ixN xs.length (j:Int)=some j:=by
  unfold ixN;rw[if_pos (),if_pos ()];simp
 unfold atI;rw[e];exact h
def kP{α:Type}(xs:List α)(v:α):atI (xs++[v]) (-1)=some v:=by
 have hl:(xs++[v]).length=xs.length+1:=by simp
 have e:ixN (xs++[v]).length (-1)=some xs.length:=by
  unfold ixN;rw[hl,if_neg (by decide),if_pos ()];congr 1;omega
 unfold atI;rw[e];show (xs++[v])[xs.length]?=some v;simp
def x9(b:Expr):Prop:=∀o i,subscripted b false o i=operate [o,i] (getItem o i)
def IxR(X:Cx)(r:R2):Prop:=
 ∀(value slice:Expr) (pins:List (Addr×Obj)) (s:Shared) (σ:St) (H:Hp) (x y:V) (v u:Value) (Q:VK),Inv X pins σ H s->av x v->av y u->r x y H Q->
  subscripted slice false v u=operate [v,u] (getItem v u)->wpAny (model X.prog X.w) X.A (subscriptTail value slice v u) (EP X pins σ Q) X.xe s
def MtR(X:Cx)(id:String)(r:V->List V->Hp->VK->Prop):Prop:=
 ∀(pins:List (Addr×Obj)) (s:Shared) (σ:St) (H:Hp) (x:V) (xs:List V) (v:Value) (us:List Value) (Q:VK),Inv X pins σ H s->av x v->aq xs us->r x xs H Q->
  wpAny (model X.prog X.w) X.A (call (.builtin id) (v::us)) (EP X pins σ Q) X.xe s
section
variable {X:Cx} {a b:Expr} {ta tb:TE} {pos:Pos}
def IxR.or{r r':R2}(h:IxR X r)(h':IxR X r'):IxR X (λx y H Q=>r x y H Q\/r' x y H Q):=by
 intro value slice pins s σ H x y v u Q I rx ry q hs;rcases q with q | q
 ·exact h value slice pins s σ H x y v u Q I rx ry q hs
 ·exact h' value slice pins s σ H x y v u Q I rx ry q hs
def MtR.or{id:String}{r r':V->List V->Hp->VK->Prop}(h:MtR X id r)(h':MtR X id r'):MtR X id (λx xs H Q=>r x xs H Q\/r' x xs H Q):=by
 intro pins s σ H x xs v us Q I rx rs q;rcases q with q | q
 ·exact h pins s σ H x xs v us Q I rx rs q
 ·exact h' pins s σ H x xs v us Q I rx rs q
def rH{r:R2}(hr:IxR X r)(ha:PE X a ta)(hb:PE X b tb)(hs:x9 b):PE X (.Subscript a b pos) (tOp r ta tb):=by
 intro pins s σ H Q I h;exact Subscript_ (An ha hb I h λv u s2 x y H2 I2 rx ry q=>hr a b pins s2 σ H2 x y v u Q I2 rx ry q (hs _ _))
inductive yb(K:PySem.W.Frag)(x y:V)(H:Hp)(Q:VK):Prop
 | mk (p:_) (xs:_) (i:_) (v:_):x=.ref p->y=.int i->SqL K H p xs->atI xs i=some v->Q v H->yb K x y H Q
inductive AG(K:PySem.W.Frag)(x y:V)(H:Hp)(Q:VK):Prop
 | mk (p:_) (xs:_) (i:_) (v:_):x=.ref p->y=.int i->SqT K H p xs->atI xs i=some v->Q v H->AG K x y H Q
def rJ:IxR X (yb X.K):=by
 intro value slice pins s σ H x y v u Q I rx ry h hs;obtain ⟨p,xs,i,z,rfl,rfl,hq,he,q⟩:=h;cases rx;obtain ⟨t,rfl⟩:=ry;obtain ⟨its,r,pl,hz⟩:=I.list hq;obtain ⟨j,h1,h2,h3,h4,h5⟩:=rG he;obtain ⟨w,ew,rw'⟩:=r.get h2;have hl:=r.length;have hn:=kK;have fin:EP X pins σ Q w s:=⟨z,H,I,rw',q⟩
 by_cases h0:0<=i
 ·have hj:i.toNat=j:=by
   rw[seqIndex_of h0 h5] at h1;exact Option.some.inj h1
  exact item_listR pl.isList h0 () (by rw[hj];simpa using ew) fin hs
 ·have hj:(i+(its.toArray.size:Int)).toNat=j:=by
   rw[seqIndex_neg () h4] at h1;rw[size_toArray,<- hl];exact Option.some.inj h1
  exact subscriptTail_builtinR (x:=w) pl.isList.typeIs slot_list_getitem.lookup
   (wpAny_getItem_list_neg (Q:=λr s'=>r=w/\EP X pins σ Q r s') pl.isList () (by rw[size_toArray]<;>omega) () (by rw[hj];simpa using ew) ⟨rfl,fin⟩) hs
def AH:IxR X (AG X.K):=by
 intro value slice pins s σ H x y v u Q I rx ry h hs;obtain ⟨p,xs,i,z,rfl,rfl,hq,he,q⟩:=h;cases rx;obtain ⟨t,rfl⟩:=ry;obtain ⟨its,r,pl,hz⟩:=I.tuple hq;obtain ⟨j,h1,h2,h3,h4,h5⟩:=rG he;obtain ⟨w,ew,rw'⟩:=r.get h2;have hl:=r.length;have hn:=kK;have fin:EP X pins σ Q w s:=⟨z,H,I,rw',q⟩;exact subscriptTail_builtinR (x:=w) pl.typeIs slot_tuple_getitem.lookup
  (getItem_tuple (j:=j) (Q:=λr s'=>r=w/\EP X pins σ Q r s') pl () () (by rw[size_toArray,<- hl];exact h1) (by simpa using ew) ⟨rfl,fin⟩) hs
def qi(its:List Value)(n j:Nat)(u:Value):Obj.mapSeq (·.setIfInBounds j u) { cls:=.type "list",data:=.seq its.toArray n }={ cls:=.type "list",data:=.seq (its.set j u).toArray n }:=by
 simp[Obj.mapSeq]
def Inv.lst{pins:List (Addr×Obj)}{σ:St}{H:Hp}{s:Shared}{p:Addr}{xs:List V}(I:Inv X pins σ H s)(h:H p=some (.lst xs)):
  ∃(its:List Value) (n:Nat),aq xs its/\s.heap.get? p=some { cls:=.type "list",data:=.seq its.toArray n }/\xs.length<=sizeLine:=by
 obtain ⟨z,its,n,r,e⟩:=I.hok p _ h;exact ⟨its,n,r,e,z⟩
def Inv.lstUpd{pins:List (Addr×Obj)}{σ:St}{H:Hp}{s:Shared}{p:Addr}{xs ys:List V}{its its':List Value}{n n':Nat}{f:Obj->Obj}(I:Inv X pins σ H s)(h:H p=some (.lst xs))
  (ho:s.heap.get? p=some { cls:=.type "list",data:=.seq its.toArray n }) (hf:f { cls:=.type "list",data:=.seq its.toArray n }={ cls:=.type "list",data:=.seq its'.toArray n' }) (r:aq ys its') (hz:ys.length<=sizeLine) (t:Nat):
  Inv X pins σ (upd H p (.lst ys)) { s with heap:=s.heap.update p f,toks:=t }:=by
 have e:(s.heap.update p f).get? p=some { cls:=.type "list",data:=.seq its'.toArray n' }:=by
  rw[Heap.get?_update_self f ho (by rw[hf]<;>rfl),hf]
 refine I.write (x:=p) (e:=p) (by rw[h];trivial) (.inl rfl) (λb u hb q=>(get?_update_other _ _ (Ne.symm hb)).trans q) ⟨_,e⟩ ?_;exact ⟨hz,its',n',r,e⟩
inductive zC  (o i v:V) (H:Hp) (Q:Hp->Prop):Prop
 | mk (p:_) (xs:_) (k:_) (j:_):o=.ref p->i=.int k->H p=some (.lst xs)->ixN xs.length k=some j->Q (upd H p (.lst (xs.set j v)))->zC  o i v H Q
def u6:BE X zC:=by
 intro pins s σ H o i v ov iv u Q I ro ri rv h;obtain ⟨p,xs,k,j,rfl,rfl,hp,hj,q⟩:=h;cases ro;obtain ⟨t,rfl⟩:=ri;obtain ⟨its,n,r,ho,hz⟩:=I.lst hp;obtain ⟨h1,h2,h3,h4⟩:=rF hj;have hl:=r.length;have hn:=kK;have I':Inv X pins σ (upd H p (.lst (xs.set j v))) { s with heap:=s.heap.update p (Obj.mapSeq (·.setIfInBounds j u)) }:=
  I.lstUpd hp ho (qi its n j u) (r.set rv j) (by rw[length_set];exact hz) s.toks
 by_cases h0:0<=k
 ·have hk:k.toNat=j:=by
   rw[seqIndex_of h0 h4] at h1;exact Option.some.inj h1
  exact PySem.W.ki_setAt ho h0 () (by rw[size_toArray,<- hl];exact h4) (by rw[hk];exact {_,I',q})
 ·have hk:(k+(its.toArray.size:Int)).toNat=j:=by
   rw[seqIndex_neg () h3] at h1;rw[size_toArray,<- hl];exact Option.some.inj h1
  exact PySem.W.ki_setBack ho () (by rw[size_toArray,<- hl];exact h3) () (by rw[hk];exact {_,I',q})
def nw(lo hi:Option Int)(n:Nat):(sliceBounds lo hi none n).1=((HT.sIx n 0 lo:Nat):Int)/\(sliceBounds lo hi none n).2.1=((HT.sIx n n hi:Nat):Int)/\(sliceBounds lo hi none n).2.2=1:=by
 refine {?_,?_,rfl}
 ·cases lo with
  | none=>simp[sliceBounds,HT.sIx]
  | some i=>
   simp only[sliceBounds,HT.sIx,Option.getD_none,show (1:Int)>0 by decide,if_true]
   by_cases h:i<0
   ·simp only[h,if_true]<;>omega
   ·simp only[h,if_false]<;>omega
 ·cases hi with
  | none=>simp[sliceBounds,HT.sIx]
  | some i=>
   simp only[sliceBounds,HT.sIx,Option.getD_none,show (1:Int)>0 by decide,if_true]
   by_cases h:i<0
   ·simp only[h,if_true]<;>omega
   ·simp only[h,if_false]<;>omega
def lX(its:List Value)(lo hi:Option Int):slicePick its.toArray lo hi none=((its.drop (HT.sIx its.length 0 lo)).take (HT.sIx its.length its.length hi-HT.sIx its.length 0 lo)).toArray:=by
 obtain ⟨h1,h2,h3⟩:=nw lo hi its.toArray.size;unfold slicePick;rw[h1,h2,h3];simp only[sliceRange_one,pick_run,size_toArray]<;>rfl
inductive AI(K:PySem.W.Frag)(x:V)(lo hi:Option Int)(H:Hp)(Q:VK):Prop
 | mk (a:_) (xs:_):x=.ref a->SqL K H a xs->(∀p,H p=none->Q (.ref p) (upd H p (.lst (dv xs lo hi))))->AI K x lo hi H Q
def yc:SlR X (AI X.K):=by
 intro pins s σ H x v vl vu lo hi sl Q I rx hs pl pu h;obtain ⟨a,xs,rfl,hx,q⟩:=h;cases rx;obtain ⟨its,r,ht,hz⟩:=I.list hx;have hlen:=r.length;refine {"list",_,slot_list_getitem.lookup,ht.isList.typeIs,?_};refine wpAny_getItem_list_slice ht.isList hs pl pu .none (by simp) ?_ (by rw[size_toArray]<;>omega);rw[lX,<- hlen];refine {.ref s.heap.objs.size,_,I.laid (t':=s.toks) (o:=.lst (dv xs lo hi)) (λb ob q=>get?_push_of_some _ q) (Nat.le_refl _) ?_,rfl,q _ (I.hok.fresh (Nat.le_refl _))};exact {Nat.le_trans (oB xs lo hi) hz,_,0,(r.drop (HT.sIx xs.length 0 lo)).take (HT.sIx xs.length xs.length hi-HT.sIx xs.length 0 lo),get?_push_size _ rfl}
def jC:V->Bool
 | .non=>true
 | .bl _=>true
 | .int _=>true
 | .str _=>true
 | _=>false
def eqV:V->V->Bool
 | .non,.non=>true
 | .bl a,.bl b=>a==b
 | .bl a,.int b=>(if a then 1 else 0)==b
 | .int a,.bl b=>a==(if b then 1 else 0)
 | .int a,.int b=>a==b
 | .str a,.str b=>a==b
 | _,_=>false
def AJ{A:Around}{s:Shared}{y x:V}{u v:Value}(ry:av y u)(rx:av x v)(fy:jC y=true)(fx:jC x=true):SeqAt.EqAt A s u v (eqV y x):=by
 cases y with
 | non=>
  cases ry;cases x with
  | non=>cases rx;exact SeqAt.EqAt.same _
  | bl b=>cases rx;exact SeqAt.EqAt.none_bool b
  | int b=>obtain ⟨t,rfl⟩:=rx;exact SeqAt.EqAt.none_int b t
  | str b=>obtain ⟨t,rfl⟩:=rx;exact SeqAt.EqAt.none_str b t
  | _=>exact absurd (show false=true from fx) Bool.false_ne_true
 | bl a=>
  cases ry;cases x with
  | non=>cases rx;exact SeqAt.EqAt.bool_none a
  | bl b=>cases rx;exact SeqAt.EqAt.bool_bool a b
  | int b=>obtain ⟨t,rfl⟩:=rx;exact SeqAt.EqAt.bool_int a b t
  | str b=>obtain ⟨t,rfl⟩:=rx;exact SeqAt.EqAt.bool_str a b t
  | _=>exact absurd (show false=true from fx) Bool.false_ne_true
 | int a=>
  obtain ⟨t',rfl⟩:=ry;cases x with
  | non=>cases rx;exact SeqAt.EqAt.int_none a t'
  | bl b=>cases rx;exact SeqAt.EqAt.int_bool a t' b
  | int b=>obtain ⟨t,rfl⟩:=rx;exact SeqAt.EqAt.int_int a t' b t
  | str b=>obtain ⟨t,rfl⟩:=rx;exact SeqAt.EqAt.int_str a t' b t
  | _=>exact absurd (show false=true from fx) Bool.false_ne_true
 | str a=>
  obtain ⟨t',rfl⟩:=ry;cases x with
  | non=>cases rx;exact SeqAt.EqAt.str_none a t'
  | bl b=>cases rx;exact SeqAt.EqAt.str_bool a t' b
  | int b=>obtain ⟨t,rfl⟩:=rx;exact SeqAt.EqAt.str_int a t' b t
  | str b=>obtain ⟨t,rfl⟩:=rx;exact SeqAt.EqAt.str_str a t' b t
  | _=>exact absurd (show false=true from fx) Bool.false_ne_true
 | _=>exact absurd (show false=true from fy) Bool.false_ne_true
def eqU(x:V)(u:Value):Bool:=match u with
 | .none=>eqV .non x
 | .bool b=>eqV (.bl b) x
 | .int i _=>eqV (.int i) x
 | .str z _=>eqV (.str z) x
 | _=>false
def u7{x y:V}{u:Value}(r:av y u)(f:jC y=true):eqU x u=eqV y x:=by
 cases y with
 | non=>cases r;rfl
 | bl b=>cases r;rfl
 | int i=>obtain ⟨t,rfl⟩:=r;rfl
 | str z=>obtain ⟨t,rfl⟩:=r;rfl
 | _=>exact absurd (show false=true from f) Bool.false_ne_true
def ny{x:V}:∀{xs:List V} {us:List Value},aq xs us->xs.all jC=true->us.any (eqU x)=xs.any λy=>eqV y x
 | _,_,.nil,_=>rfl
 | y::xs,u::us,.cons r t,f=>by
  rw[List.all_cons,Bool.and_eq_true] at f;rw[any_cons,any_cons,u7 r f.1,ny t f.2]
def kR{A:Around}{s:Shared}{x:V}{v:Value}(rx:av x v)(fx:jC x=true):∀{xs:List V} {us:List Value},aq xs us->xs.all jC=true->∀u∈us,SeqAt.EqAt A s u v (eqU x u)
 | _,_,.nil,_=>λu hu=>by cases hu
 | y::xs,u::us,.cons r t,f=>λu' hu=>by
  rw[List.all_cons,Bool.and_eq_true] at f;rcases mem_cons.mp hu with rfl | hu
  ·rw[u7 r f.1];exact AJ r rx f.1 fx
  ·exact kR rx fx t f.2 u' hu
def inV(x:V)(xs:List V):Bool:=xs.any λy=>eqV y x
inductive rIn(K:PySem.W.Frag)(neg:Bool)(x y:V)(H:Hp)(Q:VK):Prop
 | mk (p:_) (xs:_):y=.ref p->(SqL K H p xs\/SqT K H p xs)->jC x=true->xs.all jC=true->Q (.bl (if neg then !inV x xs else inV x xs)) H->rIn K neg x y H Q
def nB:OpR X (compareOp .NotIn) (rIn X.K true):=by
 intro pins s σ H x y v u Q I rx ry h;obtain ⟨p,xs,rfl,hq,fx,fs,q⟩:=h;cases ry;rcases hq with hq | hq
 ·obtain ⟨its,r,pl,hz⟩:=I.list hq
  refine SeqAt.notIn_listAt (eqU x) pl.isList (λw hw=>kR rx fx r fs w (by simpa using hw)) {.bl _,H,I,rfl,?_};rw[show its.toArray.any (eqU x)=its.any (eqU x) by simp,ny r fs];exact q
 ·obtain ⟨its,r,pl,hz⟩:=I.tuple hq
  refine SeqAt.notIn_tupleAt (eqU x) pl (λw hw=>kR rx fx r fs w (by simpa using hw)) {.bl _,H,I,rfl,?_};rw[show its.toArray.any (eqU x)=its.any (eqU x) by simp,ny r fs];exact q
def aV.or{f:Value}{r r':List V->Hp->VK->Prop}(h:aV X f r)(h':aV X f r'):aV X f (λxs H Q=>r xs H Q\/r' xs H Q):=by
 intro pins s σ H xs us Q I rs q;rcases q with q | q
 ·exact h pins s σ H xs us Q I rs q
 ·exact h' pins s σ H xs us Q I rs q
def iO:aV X (.type "list") (λxs H Q=>∃p ys,xs=[.ref p]/\(SqL X.K H p ys\/SqT X.K H p ys)/\∀l,H l=none->Q (.ref l) (upd H l (.lst ys))):=by
 intro pins s σ H xs us Q I r h;obtain ⟨p,ys,rfl,hq,q⟩:=h;obtain ⟨u,rfl,rx⟩:=eM r;cases rx;have fin:∀(its:List Value),aq ys its->ys.length<=sizeLine->∀(h':Heap) (c':Nat),(∀b o',s.heap.get? b=some o'->h'.get? b=some o')->
   h'.get? s.heap.objs.size=some { cls:=.type "list",dict:=none,data:=.seq its.toArray c',slots:=#[] }->EP X pins σ Q (.ref s.heap.objs.size) { s with heap:=h' }:=λits r' hz h' c' kp e=>
  ⟨.ref s.heap.objs.size,_,I.laid (t':=s.toks) kp (Nat.le_refl _) (show aE X.prog X.w _ h' _ (.lst ys) from ⟨hz,its,c',r',e⟩),rfl,q _ (I.hok.fresh (Nat.le_refl _))⟩
 rcases hq with hq | hq
 ·obtain ⟨its,r',pl,hz⟩:=I.list hq
  have hlen:=r'.length;obtain ⟨o,ho,hc,n,hd⟩:=pl.isList;exact call_list_seq p (.inl rfl) ho hc hd (λh' c' kp e=>fin its r' hz h' c' kp e) (by simp only[size_toArray]<;>omega)
 ·obtain ⟨its,r',pl,hz⟩:=I.tuple hq
  have hlen:=r'.length;obtain ⟨o,ho,hc,n,hd⟩:=pl;exact call_list_seq p (.inr rfl) ho hc hd (λh' c' kp e=>fin its r' hz h' c' kp e) (by simp only[size_toArray]<;>omega)
def tyV(K:PySem.W.Frag)(T:String)(x:V)(H:Hp):Prop:=match x with
 | .str _=>T = "str"
 | .int _=>T = "int"
 | .ref p=>(T = "list"/\∃xs,SqL K H p xs)\/(T = "tuple"/\∃o,K.lookup p=some o/\o.cls=.type "tuple"/\o.dict=none) \/
   (T = "dict"/\((∃kvs,H p=some (.dK kvs))\/∃kvs,H p=some (.dT kvs)))\/(T = "set"/\∃S n,H p=some (.set S n))
 | _=>False
def u8{pins:List (Addr×Obj)}{σ:St}{H:Hp}{s:Shared}{T:String}{x:V}{v:Value}(I:Inv X pins σ H s)(r:av x v)(ty:tyV X.K T x H):
  s.TypeIs v T/\∀a,v=.ref a->∃ob,s.heap.get? a=some ob/\ob.dict=none:=by
 cases x with
 | str z=>
  obtain ⟨t,rfl⟩:=r;cases (show T = "str" from ty);exact {typeIs_str s z t,λ_ e=>nomatch e}
 | int i=>
  obtain ⟨t,rfl⟩:=r;cases (show T = "int" from ty);exact {typeIs_int s i t,λ_ e=>nomatch e}
 | ref p=>
  cases r;rcases ty with ⟨rfl,xs,hq⟩ | ⟨rfl,o,hk,hc,hd⟩ | ⟨rfl,hk⟩ | ⟨rfl,S,n,hk⟩
  ·obtain ⟨its,_,pl,_⟩:=I.list hq
   refine {pl.isList.typeIs,λa e=>?_};cases e;obtain ⟨o,n,e,c,hd,_⟩:=pl;exact ⟨o,e,hd⟩
  ·refine {{o,I.kIn p o hk,hc},λa e=>?_}
   cases e;exact {o,I.kIn _ o hk,hd}
  ·have z:∃o,s.heap.get? p=some o/\o.ExactDict:=by
    rcases hk with ⟨kvs,hk⟩ | ⟨kvs,hk⟩
    ·obtain ⟨_,_,_,_,o,_,_,e,ex,_⟩:=I.hok p _ hk
     exact ⟨o,e,ex⟩
    ·obtain ⟨_,_,_,_,o,_,_,e,ex,_⟩:=I.hok p _ hk
     exact ⟨o,e,ex⟩
   obtain ⟨o,e,ex⟩:=z;refine {⟨o,e,ex.1⟩,λa e2=>?_};cases e2;exact ⟨o,e,ex.2.1⟩
  ·obtain ⟨o,_,_,_,e,ex,_⟩:=I.hok p _ hk
   refine {⟨o,e,ex.1⟩,λa e2=>?_};cases e2;exact ⟨o,e,ex.2.1⟩
 | _=>exact False.elim ty
def BW(K:PySem.W.Frag)(T:String)(r:V->List V->Hp->VK->Prop)(to:TE):TE:=λσ H Q=>to σ H λx H1=>tyV K T x H1/\r x [] H1 Q
def tBM(K:PySem.W.Frag)(T:String)(r:V->List V->Hp->VK->Prop)(to:TE)(t:TA):TE:=λσ H Q=>to σ H λx H1=>tyV K T x H1/\t σ H1 λxs H2=>r x xs H2 Q
variable {o e:Expr} {es:List Expr} {to:TE} {t:TA} {name:Str} {apos cpos:Pos} {T id:String} {r:V->List V->Hp->VK->Prop}
def AK (pa:PlainAttrs T) (slot:Slot T name id) (hty:typeOf (.builtin id)=pure (.type "method_descriptor")) (hm:MtR X id r) (ho:PE X o to)
  (hbase:attributeBase o name X.env (eval o X.env)=eval o X.env:=by rfl) (hline:(apos.endLine==cpos.line)=true:=by rfl):PE X (.Call (.Attribute o name apos) [] [] cpos) (BW X.K T r to):=by
 intro pins s σ H Q I h;refine wpAny_Call_method0_late hbase hline (thn (ho pins s σ H _ I h) λv s1 ⟨x,H1,I1,r1,ty,q1⟩=>?_);obtain ⟨h1,h2⟩:=u8 I1 r1 ty;exact {T,id,pa,slot,hty,h1,h2,Calls.callWith_builtin rfl (PySem.evalArgs_none (hm pins s1 σ H1 x [] v [] Q I1 r1 .nil q1))}
def BX (pa:PlainAttrs T) (slot:Slot T name id) (hty:typeOf (.builtin id)=pure (.type "method_descriptor")) (hm:MtR X id r) (ho:PE X o to) (ha:PA X (e::es) t)
  (hbase:attributeBase o name X.env (eval o X.env)=eval o X.env:=by rfl)
  (hfew:((backTo cpos (starEach (e::es) X.env)).all (λx=>!x.1)&&(backToKw cpos (keywordEach [] X.env)).all (λx=>x.1.isSome)
   && decide ((e::es).length+([]:List Keyword).length+(if ([]:List Keyword).isEmpty then 0 else 1)<30))=true:=by rfl)
  (hline:(apos.endLine==cpos.line)=true:=by rfl) (hs:starEach (e::es) X.env=(false,eval e X.env)::starEach es X.env:=by rfl) (hplain:(backTo cpos (starEach es X.env)).any (·.1)=false:=by rfl):
  PE X (.Call (.Attribute o name apos) (e::es) [] cpos) (tBM X.K T r to t):=by
 intro pins s σ H Q I h;refine wpAny_Call_method_late hbase hfew hline rfl (thn (ho pins s σ H _ I h) λv s1 ⟨x,H1,I1,r1,ty,q1⟩=>?_);obtain ⟨h1,h2⟩:=u8 I1 r1 ty;refine {T,id,pa,slot,hty,h1,h2,?_};have hA:=ha cpos pins s1 σ H1 _ I1 q1;rw[hs] at hA ⊢;refine Calls.callWith_builtin (by show (false||(backTo cpos (starEach es X.env)).any (·.1))=false;rw[hplain]<;>rfl) (Calls.evalArgs_plain ?_);exact thn hA λus s2 ⟨vs,H2,I2,r2,q2⟩=>hm pins s2 σ H2 x vs v us Q I2 r1 r2 q2
end
def MtM(X:Cx)(id:String)(r:V->List V->Hp->VK->Prop):Prop:=
 ∀(pins:List (Addr×Obj)) (s:Shared) (σ:St) (H:Hp) (x:V) (xs:List V) (v:Value) (us:List Value) (Q:VK),Inv X pins σ H s->av x v->aq xs us->r x xs H Q->
  wpAny (model X.prog X.w) X.A (call (.builtin id) (v::us)) (EP X pins σ Q) X.xe s
def aq.one:∀{x:V} {us:List Value},aq [x] us->∃u,us=[u]/\av x u
 | _,_,.cons r .nil=>⟨_,rfl,r⟩
def aq.zero:∀{us:List Value},aq [] us->us=[]
 | _,.nil=>rfl
def aq.dropLast{xs:List V}{us:List Value}(h:aq xs us):aq xs.dropLast us.dropLast:=by
 induction h with
 | nil=>exact .nil
 | cons r t ih=>
  cases t with
  | nil=>exact .nil
  | cons q t'=>exact .cons r ih
def aq.eraseIdx:∀{xs:List V} {us:List Value} (i:Nat),aq xs us->aq (xs.eraseIdx i) (us.eraseIdx i)
 | _,_,_,.nil=>.nil
 | _,_,0,.cons _ t=>t
 | _,_,i+1,.cons r t=>.cons r (aq.eraseIdx i t)
def aq.reverse{xs:List V}{us:List Value}(h:aq xs us):aq xs.reverse us.reverse:=by
 induction h with
 | nil=>exact .nil
 | cons r t ih=>rw[reverse_cons,reverse_cons];exact aq.append ih (.cons r .nil)
def aq.rep{xs:List V}{us:List Value}(h:aq xs us):∀k:Nat,aq (List.replicate k xs).flatten (List.replicate k us).flatten
 | 0=>.nil
 | k+1=>by
  rw[replicate_succ,replicate_succ,flatten_cons,flatten_cons];exact aq.append h (aq.rep h k)
def qj{α:Type}(l:List α):l.eraseIdx (l.length-1)=l.dropLast:=by
 induction l with
 | nil=>rfl
 | cons a r ih=>
  cases r with
  | nil=>rfl
  | cons b r=>
   have e:(a::b::r).length-1=((b::r).length-1)+1:=by
    have h1:(a::b::r).length=r.length+2:=rfl;have h2:(b::r).length=r.length+1:=rfl;omega
   rw[e,List.eraseIdx_cons_succ,ih]
   all_goals rfl
def mz{α:Type}:∀(l:List α) (i:Nat),(l.eraseIdx i).length<=l.length
 | [],_=>Nat.le_refl _
 | _::_,0=>le_succ _
 | _::r,i+1=>succ_le_succ (mz r i)
def mB(its:List Value):∀(k:Nat) (acc:List Value),
  List.foldl (λx1 x2=>x1++x2) acc.toArray (List.replicate k its.toArray)=(acc++(List.replicate k its).flatten).toArray
 | 0,acc=>by simp
 | k+1,acc=>by
  have e:acc.toArray++its.toArray=(acc++its).toArray:=by simp
  have e2:(acc++its)++(List.replicate k its).flatten=acc++(List.replicate (k+1) its).flatten:=by
   rw[replicate_succ,flatten_cons,append_assoc]
  rw[<- e2,<- mB its k (acc++its),<- e,replicate_succ,List.foldl_cons]
section
variable {X:Cx} {pins:List (Addr×Obj)} {σ:St} {H:Hp} {s:Shared} {l b:Addr} {xs ys zs:List V}
def Inv.lset{its its':List Value}{n:Nat}{f:Array Value->Array Value}{t':Nat}(I:Inv X pins σ H s)(hH:H l=some (.lst xs))
  (e:s.heap.get? l=some { cls:=.type "list",data:=.seq its.toArray n }) (hf:f its.toArray=its'.toArray) (hv:aq ys its') (hz:ys.length<=sizeLine):
  Inv X pins σ (upd H l (.lst ys)) { s with heap:=s.heap.update l (Obj.mapSeq f),toks:=t' }:=by
 have q:=PySem.IsL.update e f;rw[hf] at q;refine I.write (x:=l) (e:=l) (by rw[hH];exact trivial) (.inl rfl) (λb' u hb hu=>(get?_update_other s.heap (Obj.mapSeq f) (Ne.symm hb)).trans hu) {_,q} ?_;exact {hz,its',_,hv,q}
def Inv.lnew{its:List Value}{t':Nat}(I:Inv X pins σ H s)(hv:aq ys its)(hz:ys.length<=sizeLine):
  Inv X pins σ (upd H s.heap.objs.size (.lst ys)) { s with heap:=s.heap.push { cls:=.type "list",data:=.seq its.toArray },toks:=t' }:=
 I.laid (λ_ _ q=>get?_push_of_some _ q) (Nat.le_refl _) ⟨hz,its,0,hv,get?_push_size _ rfl⟩
def Inv.fresh(I:Inv X pins σ H s):H s.heap.objs.size=none:=I.hok.fresh (Nat.le_refl _)
def Inv.lstM(I:Inv X pins σ H s)(hH:H l=some (.lst xs)):xs.length<=sizeLine/\∃(its:List Value) (n:Nat),aq xs its/\xs.length=its.length/\s.heap.get? l=some { cls:=.type "list",data:=.seq its.toArray n }:=by
 obtain ⟨z,its,n,r,e⟩:=I.hok l _ hH;exact ⟨z,its,n,r,r.length,e⟩
def u9{n:Nat}(h:n<=sizeLine):Builtin.List.listTooLong n=false:=by
 unfold Builtin.List.listTooLong;exact decide_eq_false ()
end
section
variable {X:Cx}
inductive rK  (x:V) (vs:List V) (H:Hp) (Q:VK):Prop
 | mk (l:_) (xs:_) (y:_):x=.ref l->vs=[y]->H l=some (.lst xs)->xs.length<sizeLine->Q .non (upd H l (.lst (xs++[y])))->rK  x vs H Q
def mD:MtM X "list.append" rK:=by
 intro pins s σ H x vs v us Q I rx rv h;obtain ⟨l,xs,y,rfl,rfl,hH,hz,q⟩:=h;cases rx;obtain ⟨u,rfl,ru⟩:=rv.one;obtain ⟨z,its,n,r,hl,e⟩:=I.lstM hH;refine call_meets F.slot_list_append {_,e,rfl} F.entry_list_append (F.args_list_append_2 _ _) (PySem.list_append l its.toArray n u (by rw[size_toArray];omega)) ⟨e,?_⟩;refine {.non,_,I.lset (its':=its++[u]) hH e (by simp) (r.append (.cons ru .nil)) ?_,rfl,q};rw[length_append,List.length_singleton];omega
inductive AL  (x:V) (vs:List V) (H:Hp) (Q:VK):Prop
 | mk (l:_) (xs:_) (y:_):x=.ref l->vs=[]->H l=some (.lst xs)->xs[xs.length-1]?=some y->Q y (upd H l (.lst xs.dropLast))->AL  x vs H Q
def AM:MtM X "list.pop" AL:=by
 intro pins s σ H x vs v us Q I rx rv h;obtain ⟨l,xs,y,rfl,rfl,hH,hy,q⟩:=h;cases rx;have hus:=rv.zero;subst hus;obtain ⟨z,its,n,r,hl,e⟩:=I.lstM hH;obtain ⟨u,hu,ru⟩:=r.get hy;have hy':its.toArray[its.toArray.size-1]?=some u:=by
  show its.toArray[its.length-1]?=some u;rw[<- getElem?_toList,<- hl];exact hu
 refine call_meets F.slot_list_pop {_,e,rfl} F.entry_list_pop (F.args_list_pop_1 _) (MeetsSeq.list_pop_last l its.toArray n u hy' (by rw[size_toArray];omega)) ⟨e,?_⟩;refine {y,_,I.lset (its':=its.dropLast) hH e ?_ r.dropLast ?_,ru,q}
 ·show its.toArray.eraseIdxIfInBounds (its.toArray.size-1)=its.dropLast.toArray
  rw[size_toArray,List.eraseIdxIfInBounds_toArray,qj]
 ·rw[length_dropLast]
  omega
inductive qk  (x:V) (vs:List V) (H:Hp) (Q:VK):Prop
 | mk (l:_) (xs:_) (i:_) (k:_) (y:_):x=.ref l->vs=[.int i]->H l=some (.lst xs)->-(2^63)<=i->i<2^63->seqIndex? i xs.length=some k->xs[k]?=some y->Q y (upd H l (.lst (xs.eraseIdx k)))->qk  x vs H Q
def va:MtM X "list.pop" qk:=by
 intro pins s σ H x vs v us Q I rx rv h;obtain ⟨l,xs,i,k,y,rfl,rfl,hH,h1,h2,hk,hy,q⟩:=h;cases rx;obtain ⟨u,rfl,ru⟩:=rv.one;obtain ⟨t,rfl⟩:=ru;obtain ⟨z,its,n,r,hl,e⟩:=I.lstM hH;obtain ⟨w,hw,rw'⟩:=r.get hy;refine call_meets F.slot_list_pop {_,e,rfl} F.entry_list_pop (F.args_list_pop_2 _ _)
  (MeetsSeq.list_pop_at l its.toArray n i t k w (fitsIndex_both h1 h2) (by rw[size_toArray,<- hl];exact hk) (by rw[<- getElem?_toList];exact hw) (by rw[size_toArray];omega)) ⟨e,?_⟩
 refine {y,_,I.lset (its':=its.eraseIdx k) hH e ?_ (r.eraseIdx k) ?_,rw',q}
 ·show its.toArray.eraseIdxIfInBounds k=(its.eraseIdx k).toArray
  rw[List.eraseIdxIfInBounds_toArray]
 ·have:=mz xs k
  omega
inductive AN  (x y:V) (H:Hp) (Q:VK):Prop
 | mk (l:_) (b:_) (xs:_) (zs:_):x=.ref l->y=.ref b->H l=some (.lst xs)->H b=some (.lst zs)->xs.length+zs.length<=sizeLine->(∀p,H p=none->Q (.ref p) (upd H p (.lst (xs++zs))))->AN  x y H Q
def AO:OpR X (binaryOp .Add) AN:=by
 intro pins s σ H x y v u Q I rx ry h;obtain ⟨l,b,xs,zs,rfl,rfl,hH,hB,hz,q⟩:=h;cases rx;cases ry;obtain ⟨z,its,n,r,hl,e⟩:=I.lstM hH;obtain ⟨z2,its2,n2,r2,hl2,e2⟩:=I.lstM hB;refine PySem.P.add_list e e2 ?_ (by rw[size_toArray,size_toArray];omega);have ea:its.toArray++its2.toArray=(its++its2).toArray:=by simp
 rw[ea];exact ⟨.ref _,_,I.lnew (t':=s.toks) (r.append r2) (by rw[length_append];omega),rfl,q _ I.fresh⟩
inductive AQ  (x y:V) (H:Hp) (Q:VK):Prop
 | mk (l:_) (k:_) (xs:_):x=.ref l->y=.int k->H l=some (.lst xs)->-(2^63)<=k->k<2^63->xs.length*k.toNat<=sizeLine->(∀p,H p=none->Q (.ref p) (upd H p (.lst (List.replicate k.toNat xs).flatten)))->AQ  x y H Q
def yd{α:Type}(xs:List α)(k:Nat):(List.replicate k xs).flatten.length=k*xs.length:=by
 induction k with
 | zero=>simp
 | succ k ih=>rw[replicate_succ,flatten_cons,length_append,ih,Nat.succ_mul,Nat.add_comm]
def AR:OpR X (binaryOp .Mult) AQ:=by
 intro pins s σ H x y v u Q I rx ry h;obtain ⟨l,k,xs,rfl,rfl,hH,h1,h2,hz,q⟩:=h;cases rx;obtain ⟨t,rfl⟩:=ry;obtain ⟨z,its,n,r,hl,e⟩:=I.lstM hH;have hlen:its.toArray.size*k.toNat<=sizeLine:=by rw[size_toArray,<- hl];exact hz
 have hcap:¬ its.toArray.size*k.toNat>(2^63-1)/8:=by
  have:(sizeLine:Nat)<=(2^63-1)/8:=by decide
  omega
 have hfit:¬ (!Builtin.List.listFitsIndex k)=true:=by
  rw[fitsIndex_both h1 h2];exact Bool.false_ne_true
 have hlong:¬ Builtin.List.listTooLong (its.toArray.size*k.toNat)=true:=by
  rw[u9 hlen];exact Bool.false_ne_true
 have hnew:List.foldl (λx1 x2=>x1++x2) #[] (List.replicate (if its.toArray.isEmpty=true then 0 else k.toNat) its.toArray)=(List.replicate k.toNat its).flatten.toArray:=by
  have f0:∀m:Nat,List.foldl (λx1 x2=>x1++x2) #[] (List.replicate m its.toArray)=(List.replicate m its).flatten.toArray:=λm=>by
   have:=mB its m [];rw[nil_append] at this;exact this
  rw[f0];cases its with
  | nil=>simp
  | cons a r'=>rw[if_neg (by simp)]
 refine wpAny_binaryOp_repeat_ref (T := "list") (U := "int") (by decide) {_,e,rfl} (λs'=>typeIs_int s' k t) noFill_list_mul F.fills_int_mul F.slot_int_rmul repeat_list F.slot_int_index.lookup
  (call_meets F.slot_int_rmul (typeIs_int s k t) F.entry_int_rmul (F.args_int_rmul_2 _ _) (int___rmul___int_list k t l its.toArray n)
   ⟨e,rfl,⟨_,e,rfl⟩,call_meets F.slot_list_mul ⟨_,e,rfl⟩ F.entry_list_mul (F.args_list_mul_2 _ _) (AutoListH.list___mul___list_int_3 l its.toArray n k t hfit hcap hlong) ⟨e,?_⟩⟩)
 rw[hnew];exact ⟨.ref _,_,I.lnew (t':=s.toks) (r.rep k.toNat) (by rw[yd,Nat.mul_comm];exact hz),rfl,q _ I.fresh⟩
end
section
variable {prog:Program} {w:World} {A:Around} {E:Value->Shared->Prop} {s:Shared}
set_option maxRecDepth 100000 in
end
section
variable {X:Cx}
end
end L2
namespace Att
open PySem PySem.W PySem.Calls PyProof.Rows
def jY{P:Params}{h:Heap}:∀(ns:List Int) (vs:List Value),WellAll P h vs (ns.map WData.int)->IntsAre vs ns:=by
 intro ns
 induction ns with
 | nil=>
  intro vs w;rw[map_nil] at w;cases w;exact .nil
 | cons n ns ih=>
  intro vs w;rw[map_cons] at w;cases w with
  | cons a b=>
   cases a;exact .cons _ _ (ih _ b)
def tJ{l:OpenLaw}{n:Nat}(hn:l.most=some n){P:Params}{h:Heap}{args:List WData}{vals:List Value}
  (hpre:l.row.toRowW.claim.pre args=true) (hwl:WellAll P h vals args):
  ∃a vs ns,vals=[Value.ref a]/\args=[WData.list (ns.map WData.int)]/\h.get? a=some { cls:=.type "list",data:=.seq vs.toArray }/\IntsAre vs ns/\ns.length<=n:=by
 have hsh:WShape.hasAll [] args [.list .int]=true:=(pre_splitW hpre).1;have hc:l.pre.holds [] { args:=args }=true:=(pre_splitW hpre).2;obtain ⟨d,r,rfl,h1,h2⟩:=hasAllW_cons hsh;obtain rfl:=hasAllW_nil h2;obtain ⟨xs,rfl,h3⟩:=hasW_list h1;obtain ⟨ns,rfl⟩:=items_int h3;have hlen:ns.length<=n:=by
  unfold OpenLaw.pre at hc;have h4:(WTm.not (.lt (.lit (.int (n:Int))) (.len (.arg 0)))).holds [] { args:=[.list (ns.map .int)] }=true:=by
   have h4:=(holds_andW hc).1;rw[hn] at h4;exact h4
  have h5:=condW_of h4 (w_not (w_lt w_lit (w_len_list (w_arg rfl))));rw[length_map] at h5;refine Nat.le_of_not_lt λq=>?_;have q':(n:Int)<((ns.length:Nat):Int):=()
  first
   | (rw[decide_eq_true q'] at h5;exact absurd h5 (by decide))
   | (simp at h5;omega)
 cases hwl with
 | cons w1 w2=>
  cases w2;cases w1 with
  | list ho hall=>exact ⟨_,_,ns,rfl,rfl,ho,jY ns _ hall,hlen⟩
def tK(l:OpenLaw)(args:List WData):l.row.toRowW.claim.post args (.bool true) args=true:=
 postW_of (r:=l.row.toRowW) (X:=(true==true))
  (show WShape.has [] (.bool true) .bool=true by first | rfl | decide | simp[WShape.has,WShape.arms,WShape.armsAll])
  (show (WTm.eq .res (.lit (.bool true))).value [] { args:=args,res:=some (.bool true),after:=args }=some (.bool (true==true)) from w_eq_bool (w_res rfl) w_lit) rfl
def attach_call{l:OpenLaw}{n:Nat}{q:Program}{loose:List Str}{XP:(Str->Option Value)->Heap->Prop}{YP:World->Heap->Prop}{d:DefRec}
  (hn:l.most=some n) (hdf:d.params.defaults=[])
  (call:∀(w:World) (s₀ s₁:Shared) (mg mb:Str->Option Value) (fa:Addr) (o:Obj) (pm cd doc:Value) (a:Addr) (vs:List Value) (ns:List Int),
   Ground q loose [] XP w s₀ mg mb s₁.heap->YP w s₁.heap->
   s₁.heap.get? fa=some o->o.data=.func (docDef d.name d.params d.body d.scope pm cd doc)->s₁.heap.CodeRec cd d.name->mg d.name=some (.ref fa)->
   s₁.heap.get? a=some { cls:=.type "list",data:=.seq vs.toArray }->IntsAre vs ns->ns.length<=n->s₁.gens=#[]->
   codeAny (model l.prog w) callerA (.call (.ref fa) ⟨[.ref a],[]⟩) (λr s'=>r=.ok (.ret (.bool true))/\OldK s₁.heap s'.heap/\s'.os=s₁.os/\AllBare s'.gens) s₁):
  WalkO q loose XP YP l.row.toRowW d [] (λf vs=>PySem.call f vs):=by
 intro w s₀ s₁ mg mb G Y fa o pm cd doc dV kV ho hd hcd hD hmg hg args vals as hpre hlay hrd hwl hlo
 obtain rfl:dV=.none:=Dflts.none hD hdf;obtain rfl:kV=.none:=Dflts.noKw hD;obtain ⟨a,vs,ns,rfl,rfl,hobj,hints,hlen⟩:=tJ hn hpre hwl;refine enter_call (codeAny_mono (call w s₀ s₁ mg mb fa o pm cd doc a vs ns G Y ho (fd_plain hd) hcd hmg hobj hints hlen hg) λr s' hq=>?_);obtain ⟨rfl,h2,h3,h4⟩:=hq;exact {.inl {.bool true,.bool true,[],rfl,λ_=>rfl,.bool true,tK l _,λ_=>{List.Pairwise.nil,λ_ hm=>(nomatch hm)}},h2,h3,h4}
section
variable {prog:Program} {w:World} {A:Around} {E:Value->Shared->Prop} {s:Shared} {K:Frag}
end
end Att
namespace L2
open PySem PySem.Spec PyProof.Rows
def jh:∀{vs:List Value} {ns:List Int},IntsAre vs ns->aq (ns.map V.int) vs
 | _,_,.nil=>.nil
 | _,_,.cons n t h=>.cons ⟨t,rfl⟩ (jh h)
def ar(s:Stmt)(j:Nat):Stmt:=match s with
 | .ClassDef _ _ _ body _ _ _ _ _ _ _=>body.getD j (.Pass ⟨0,0,0,0⟩)
 | _=>.Pass ⟨0,0,0,0⟩
def dU(s:Stmt):Arguments:=match s with
 | .FunctionDef _ a _ _ _ _ _ _ _ _=>a
 | _=>{ posonlyargs:=[],args:=[],vararg:=none,kwonlyargs:=[],kw_defaults:=[],kwarg:=none,defaults:=[] }
def bW(s:Stmt):List Stmt:=match s with
 | .FunctionDef _ _ b _ _ _ _ _ _ _=>b
 | _=>[]
def ah(s:Stmt):Scope:=match s with
 | .FunctionDef _ _ _ _ _ _ sc _ _ _=>sc
 | _=>{ kind:=.function,names:=[],isGenerator:=false,isCoroutine:=false }
abbrev CX0:CXT:=λ_ _ _ _ _ _=>False
abbrev E0:XK:=λ_ _ _=>False
def rL{X:Cx}:eB CX0 X E0:=λ_ _ _ _ _ _ _ h=>h.elim
structure Fun(K:PySem.W.Frag)(x qual:Str)(st:Stmt)(f:Addr)(fd:FuncData):Prop where
 ex:∃(oc:Value) (od:Option Addr) (kV doc pm:Value) (an:Option Addr) (cdv ct:Value) (osl:Array (Option Value)),
  fd=fnOf x qual (dU st) (bW st) (ah st) .none kV doc pm an cdv ct/\K.lookup f=some ⟨oc,od,.func fd,osl⟩/\codeIn K cdv qual=true
 kp:keepIn K (.ref f)=true
section
variable {P:Program} {w:World} {K:PySem.W.Frag} {mg:Str->Option Value} {base:Heap}
def Fun.ok{x qual:Str}{st:Stmt}{f:Addr}{fd:FuncData}{N ps:List Str}{k:Nat}{sp:Sp}(F:Fun K x qual st f fd)(S:ak N ps (ah st))(len:∀vs H Q E,sp vs H Q E->vs.length=ps.length)
  (hbody:∀(cdv:Value) (A:Around) (outer:List Env) (s:Shared) (H:Hp) (vs:List V) (Q:VK) (E:XK),bi k (A.deeper (envOfC qual (ah st) s.heap.objs.size f cdv))->sp vs H Q E->
   ∃t,PSs (jg CX0 P w K mg base N qual (ah st) f cdv A outer s H E).nox (bW st) t/\t { nx:=λ_ H'=>Q .non H',rt:=Q } (start N vs) H):b9 P w K mg base CX0 (k+1) f fd ps sp:=by
 obtain ⟨oc,od,kV,doc,pm,an,cdv,ct,osl,rfl,lk,hcd⟩:=F.ex;refine u4 lk hcd S len λA outer s H vs Q E hr hsp=>?_;obtain ⟨t,h,q⟩:=hbody cdv A outer s H vs Q E hr hsp;exact ⟨t,h.nox,q⟩
def Fun.binds{x qual:Str}{st:Stmt}{f:Addr}{fd:FuncData}{ps:List Str}(F:Fun K x qual st f fd)
  (h:∀(kV doc pm:Value) (an:Option Addr) (cdv ct:Value) (us:List Value),us.length=ps.length->bindArgs (fnOf x qual (dU st) (bW st) (ah st) .none kV doc pm an cdv ct) ⟨us,[]⟩=pure (ps.zip us)):bF K fd ps []:=by
 obtain ⟨oc,od,kV,doc,pm,an,cdv,ct,osl,rfl,lk,hcd⟩:=F.ex;exact .all (h kV doc pm an cdv ct)
def ql{x qual:Str}{st:Stmt}{f:Addr}{oc:Value}{od an:Option Addr}{osl:Array (Option Value)}{kV doc pm cdv ct:Value}(l:K.lookup f=some ⟨oc,od,.func (fnOf x qual (dU st) (bW st) (ah st) .none kV doc pm an cdv ct),osl⟩)
  (c:codeIn K cdv qual=true) (k:keepIn K (.ref f)=true):Fun K x qual st f (fnOf x qual (dU st) (bW st) (ah st) .none kV doc pm an cdv ct):=⟨⟨oc,od,kV,doc,pm,an,cdv,ct,osl,rfl,l,c⟩,k⟩
end
def rM{A:Around}{k:Nat}(hr:bi k A):A.units+1<cLine:=Nat.lt_of_le_of_lt (Nat.add_le_add_left (by decide:1<=64) _) hr.units
def aw{n:Nat}(h:n<=1000):n<sizeLine:=Nat.lt_of_le_of_lt h (by decide)
section
variable {X:Cx}
def pv (i:Nat) {x:Str} {pos:Pos} (hN:X.N[i]?=some x:=by rfl) (hv:Vis X.env.scope x:=by first | exact Or.inl rfl | exact Or.inr (Or.inl rfl) | exact Or.inr (Or.inr rfl)) (hd:(x==("__debug__":Str))=false:=by decide)
  (hcd:(x==("__classdict__":Str))=false:=by decide):PE X (.Name x pos) (sX i):=pU hN hv hd hcd
end
def aY{A B:Prop}(h:B):if false=true then A else B:=by
 rw[if_neg Bool.false_ne_true];exact h
def dw{A B:Prop}(h:A):if true=true then A else B:=by
 rw[if_pos rfl];exact h
def rN{c A B:Prop} [Decidable c] (hc:c) (h:B):if (!decide c)=true then A else B:=by
 rw[decide_eq_true hc];exact aY h
def ag(H H':Hp):Prop:=∀b o,H b=some o->H' b=some o
def ag.refl(H:Hp):ag H H:=λ_ _ h=>h
def ag.trans{H H1 H2:Hp}(a:ag H H1)(b:ag H1 H2):ag H H2:=λc o h=>b c o (a c o h)
def ag.free{H H':Hp}(e:ag H H'){l:Addr}(h:H' l=Option.none):H l=Option.none:=by
 cases q:H l with
 | none=>rfl
 | some o=>
  rw[e l o q] at h;cases h
def ag.seq{K:PySem.W.Frag}{H H':Hp}{a:Addr}{xs:List V}(e:ag H H')(h:SqL K H a xs):SqL K H' a xs:=by
 rcases h with (h | ⟨o,h⟩) | h
 ·exact .inl (.inl (e _ _ h))
 ·exact .inl (.inr {o,e _ _ h})
 ·exact .inr h
def aM(env:Env):List (Str×NameKind)->List (Str×Addr)->List (Str×Addr)
 | [],acc=>acc
 | (n,k)::r,acc=>aM env r (if k==.free then (n,(env.cells.lookup n).getD 0)::acc else acc)
def kU:∀(l:List (Str×NameKind)) (acc:List (Str×Addr)),(∀y∈l,y.2=.free->∃c,env.cells.lookup y.1=some c)->
  (forIn l acc λ(x:Str×NameKind) (cs:List (Str×Addr))=>(if x.2==.free then (do let c <- cellOf env x.1;pure (ForInStep.yield ((x.1,c)::cs))) else pure (ForInStep.yield cs):Sem (ForInStep (List (Str×Addr)))))=pure (aM env l acc)
 | [],acc,_=>by rw[forIn_nil];rfl
 | (n,k)::r,acc,h=>by
  have ih:=λa=>kU (env:=env) r a λy hy=>h y (mem_cons_of_mem _ hy);rw[forIn_cons]
  by_cases e:(k==NameKind.free)=true
  ·obtain ⟨c,hc⟩:=h (n,k) mem_cons_self (by simpa using e)
   have hc':env.cells.lookup n=some c:=hc;have hcell:cellOf env n=pure c:=by unfold cellOf;rw[hc']
   simp only[e,if_true,hcell,pure_bind];rw[ih];show _=pure (aM env r (if k==.free then (n,(env.cells.lookup n).getD 0)::acc else acc));rw[if_pos e,hc'];rfl
  ·simp only[e,if_false,pure_bind,Bool.false_eq_true]
   rw[ih];show _=pure (aM env r (if k==.free then (n,(env.cells.lookup n).getD 0)::acc else acc));rw[if_neg e]
def iy{scope:Scope}(h:∀y∈scope.names,y.2=.free->∃c,env.cells.lookup y.1=some c):closureFor scope env=pure (aM env scope.names []):=by
 have q:=kU (env:=env) scope.names [] h;unfold closureFor;simp only[bind_pure];exact q
def ji{n x:Str}{c:Addr}{l:List (Str×Addr)}:((n,c)::l).lookup x=if x==n then some c else l.lookup x:=by
 rw[List.lookup_cons];cases x==n<;>rfl
def jD{env:Env}:∀(l:List (Str×NameKind)) (acc:List (Str×Addr)) (x:Str) (c:Addr),(∀y∈l,y.2=.free->∃c,env.cells.lookup y.1=some c)->(aM env l acc).lookup x=some c->acc.lookup x=some c\/env.cells.lookup x=some c
 | [],acc,x,c,_,e=>.inl e
 | (n,k)::r,acc,x,c,h,e=>by
  have ih:=jD (env:=env) r _ x c (λy hy=>h y (mem_cons_of_mem _ hy)) (show (aM env r (if k==.free then (n,(env.cells.lookup n).getD 0)::acc else acc)).lookup x=some c from e);rcases ih with ih | ih
  ·by_cases ek:(k==NameKind.free)=true
   ·rw[if_pos ek,ji] at ih
    by_cases ex:(x==n)=true
    ·rw[if_pos ex] at ih
     obtain ⟨c',hc⟩:=h (n,k) mem_cons_self (by simpa using ek);have hc':env.cells.lookup n=some c':=hc;rw[hc'] at ih;have e1:c'=c:=Option.some.inj ih;have e2:x=n:=by simpa using ex
     exact .inr (by rw[e2,hc',e1])
    ·rw[if_neg ex] at ih
     exact .inl ih
   ·rw[if_neg ek] at ih
    exact .inl ih
  ·exact .inr ih
def jE{env:Env}:∀(l:List (Str×NameKind)) (acc:List (Str×Addr)) (x:Str),(∃c,acc.lookup x=some c)->∃c,(aM env l acc).lookup x=some c
 | [],acc,x,h=>h
 | (n,k)::r,acc,x,⟨c,h⟩=>by
  refine jE (env:=env) r (if k==.free then (n,(env.cells.lookup n).getD 0)::acc else acc) x ?_
  by_cases ek:(k==NameKind.free)=true
  ·rw[if_pos ek,ji]
   by_cases ex:(x==n)=true
   ·rw[if_pos ex];exact {_,rfl}
   ·rw[if_neg ex];exact ⟨c,h⟩
  ·rw[if_neg ek];exact ⟨c,h⟩
def dz{env:Env}:∀(l:List (Str×NameKind)) (acc:List (Str×Addr)) (x:Str),(x,NameKind.free)∈l->∃c,(aM env l acc).lookup x=some c
 | [],acc,x,h=>by cases h
 | (n,k)::r,acc,x,h=>by
  rcases mem_cons.mp h with e | e
  ·obtain ⟨e1,e2⟩:=Prod.mk.inj e
   refine jE (env:=env) r _ x ?_;rw[if_pos (show (k==NameKind.free)=true from by rw[<- e2];rfl),ji,if_pos (show (x==n)=true from by rw[e1];simp)];exact {_,rfl}
  ·exact dz (env:=env) r _ x e
abbrev qm(env:Env)(l:List (Str×NameKind)):List (Str×NameKind):=l.map λ(n,k)=>if (k==NameKind.free&&env.scope.kind==.function&&env.kindOf n==some .cell) then (n,NameKind.cell) else (n,k)
def mE:
  (qm env ((n,k)::r)).lookup x=if x==n then some (if (k==NameKind.free&&env.scope.kind==.function&&env.kindOf n==some .cell) then NameKind.cell else k) else (qm env r).lookup x:=by
 show List.lookup x ((if (k==NameKind.free&&env.scope.kind==.function&&env.kindOf n==some .cell)=true then (n,NameKind.cell) else (n,k))::qm env r)=_
 by_cases hc:(k==NameKind.free&&env.scope.kind==.function&&env.kindOf n==some .cell)=true
 ·rw[if_pos hc,if_pos hc,List.lookup_cons]
  cases x==n<;>rfl
 ·rw[if_neg hc,if_neg hc,List.lookup_cons]
  cases x==n<;>rfl
def rO{n x:Str}{k:NameKind}{r:List (Str×NameKind)}:((n,k)::r).lookup x=if x==n then some k else r.lookup x:=by
 rw[List.lookup_cons];cases x==n<;>rfl
def mF{env:Env}:∀{l:List (Str×NameKind)} {x:Str},l.lookup x=some .free->(qm env l).lookup x=some .cell\/(qm env l).lookup x=some .free
 | [],x,h=>by cases h
 | (n,k)::r,x,h=>by
  rw[rO] at h;rw[mE]
  by_cases ex:(x==n)=true
  ·rw[if_pos ex] at h ⊢
   have hk:k=.free:=Option.some.inj h;subst hk
   split
   ·exact .inl rfl
   ·exact .inr rfl
  ·rw[if_neg ex] at h ⊢
   exact mF h
def oC{env:Env}:∀{l:List (Str×NameKind)} {x:Str},(∀y∈l,y.2≠.cell)->((qm env l).lookup x=some .cell\/(qm env l).lookup x=some .free)->l.lookup x=some .free
 | [],x,_,h=>by rcases h with h | h<;>cases h
 | (n,k)::r,x,hc,h=>by
  rw[mE] at h;rw[rO]
  by_cases ex:(x==n)=true
  ·rw[if_pos ex] at h ⊢
   have hk:=hc (n,k) mem_cons_self;have hk':k≠.cell:=hk
   by_cases c:(k==NameKind.free&&env.scope.kind==.function&&env.kindOf n==some .cell)=true
   ·have:k=.free:=by
     simp only[Bool.and_eq_true] at c
     simpa using c.1.1
    rw[this]
   ·simp only[if_neg c] at h
    rcases h with h | h
    ·exact absurd (Option.some.inj h) hk'
    ·exact h
  ·rw[if_neg ex] at h ⊢
   exact oC (λy hy=>hc y (mem_cons_of_mem _ hy)) h
def cf(X:Cx)(scope:Scope)(N':List Str)(C:Addr)(s2:Shared)(H2:Hp)(fp:List Addr)(E:Value->Shared->Prop):Cx where
 prog:=X.prog
 w:=X.w
 K:=X.K
 mg:=X.mg
 base:=X.base
 A:=X.A
 N:=N'
 s₀:=s2
 H₀:=H2
 env:=compEnvC scope (aM X.env scope.names []) C X.env
 outer:=X.stack
 stack:=X.stack
 ex:=fp
 fn:=λ_=>false
 calm:=X.calm
 pn:=[]
 xe:=E
def ye(cap:List (Option Nat))(σ:St):St:=cap.map λo=>o.bind λj=>(σ[j]?).join
structure CSc(X:Cx)(scope:Scope)(N':List Str)(cap:List (Option Nat)):Prop where
 kind:scope.kind=.function
 nocell:∀y∈scope.names,y.2≠.cell
 names:∀y∈scope.names,y.2=.local->scope.names.lookup y.1=some .local
 free:∀y∈scope.names,y.2=.free->X.env.kindOf y.1=some .cell\/X.env.kindOf y.1=some .free
 len:cap.length=N'.length
 cap:∀i∈List.range cap.length,∀j∈(cap[i]?).join,N'[i]?=X.N[j]?/\(N'[i]?).isSome=true/\(N'[i]?).bind (λn=>scope.names.lookup n)=some .free
structure CV(sc:Scope)(N:List Str)(scope:Scope)(N':List Str)(cap:List (Option Nat)):Prop where
 kind:scope.kind=.function
 nocell:∀y∈scope.names,y.2≠.cell
 names:∀y∈scope.names,y.2=.local->scope.names.lookup y.1=some .local
 free:∀y∈scope.names,y.2=.free->sc.names.lookup y.1=some .cell\/sc.names.lookup y.1=some .free
 len:cap.length=N'.length
 cap:∀i∈List.range cap.length,∀j∈List.range N.length,cap[i]?=some (some j)->N'[i]?=N[j]?/\(N'[i]?).isSome=true/\(N'[i]?).bind (λn=>scope.names.lookup n)=some .free
def kX{scope:Scope}(hs:X.env.scope=sc)(hN:X.N=N)(D:CV sc N scope N' cap)(hc:(cap.all λo=>o.all λj=>decide (j<N.length))=true:=by rfl):CSc X scope N' cap:=by
 subst hs hN;refine {D.kind,D.nocell,D.names,D.free,D.len,λi hi j hj=>?_};have e:cap[i]?=some (some j):=by
  cases q:cap[i]? with
  | none=>rw[q] at hj;cases hj
  | some o=>
   rw[q] at hj;have:o=some j:=hj;rw[this]
 have hm:some j∈cap:=mem_of_getElem? e;have hl:=List.all_eq_true.mp hc (some j) hm;have hl':j<X.N.length:=of_decide_eq_true (by simpa using hl);exact D.cap i hi j (mem_range.mpr hl') e
def yf(X:Cx)(ifs:List Expr)(t:TT):Prop:=
 ∀(pins:List (Addr×Obj)) (s:Shared) (σ:St) (H:Hp) (Q:Bool->Hp->Prop),Inv X pins σ H s->t σ H Q->
  wpAny (model X.prog X.w) X.A (forIn ifs true λc r=>if r=true then do let ok <- isTrue c X.env (eval c X.env);pure (ForInStep.yield ok) else pure (ForInStep.yield r)) (TP X pins σ Q) X.xe s
def CW:TT:=λ_ H Q=>Q true H
def ki:yf X [] CW:=λ_ _ _ H _ I h=>wpAny_tests_nil ⟨H,I,h⟩
def tL{w:World}{R:Result->Shared->Prop}{scope:Scope}
  (hN:NE=notedBy (model prog w) A env λe s'=>R (.error e) s') (I:Nat->Shared->Prop)
  (turn:∀n s,I n s->wpAny (model prog w) A (pyNext it) (λr s1=>match r with
   | none=>R (.ok .next) s1
   | some v=>wpAny (model prog w) A (letOwnedTupleGo tg it v) (λ_ s2=>wpAny (model prog w) A (assign tg env v) (λ_ s3=>
     wpAny (model prog w) A (forIn ifs true λc r=>if r=true then do let ok <- isTrue c env (eval c env);pure (ForInStep.yield ok) else pure (ForInStep.yield r)) (λok s4=>
      if ok=true then wpAny (model prog w) A (eval elt env) (λx s5=>wpAny (model prog w) A (call (.builtin "list.append") [acc,x]) (λ_ s6=>∃m,m<n/\I m s6) NE s5) NE s4
      else ∃m,m<n/\I m s4) NE s3) NE s2) NE s1) NE s)
  (n:Nat) (h:I n s):codeAny (model prog w) A (.compLoop (.ListComp elt [⟨tg,iter,ifs,0⟩] scope pos) 0 it acc env) R s:=by
 subst hN;refine codeAny_loop rfl I (λk s' hI=>?_) n h;refine (wpAny_noted ?_:wpAny _ A ((compTurn (.ListComp elt [{tg,iter,ifs,0}] scope pos) 0 it acc env).onRaise (λx=>do noteFrame x env;theTreesLotGoes x)) _ _ s');rw[compTurn_list];refine wpAny_bind (wpAny_standAt (wpAny_bind (thn (turn k s' hI) λr s1 h1=>?_)));cases r with
 | none=>exact wpAny_pure h1
 | some v=>
  refine wpAny_bind (thn h1 λ_ s2 h2=>wpAny_bind (thn h2 λ_ s3 h3=>wpAny_bind (thn h3 λok s4 h4=>?_)));cases ok with
  | false=>exact wpAny_pure ⟨rfl,h4⟩
  | true=>exact wpAny_bind (wpAny_bind (thn h4 λx s5 h5=>wpAny_bind (thn h5 λ_ s6 h6=>wpAny_pure (wpAny_pure ⟨rfl,h6⟩))))
def oE(J:It)(g:TG)(tst:TT)(te:TE)(p:Addr)(Q:Hp->Prop)(σ:St)(H:Hp):Prop:=
 ∃W:Nat->Nat->St->Hp->Prop,(∃m,W 0 m σ H)/\∀i m σ' H',W i m σ' H'->
  (J.stop i H'/\Q H')\/(J.go i H'/\∃N:St->Hp->Prop,(∀σ2 H2,N σ2 H2->∃m',m'<m/\W (i+1) m' σ2 H2) /\
   ∀x H1,J.yld i H' x H1->g x σ' H1 λσ2 H2=>tst σ2 H2 λc H3=>if c=true then te σ2 H3 λy H4=>∃xs,H4 p=some (.lst xs)/\xs.length<sizeLine/\N σ2 (upd H4 p (.lst (xs++[y]))) else N σ2 H3)
def vb(wi:TI)(cap:List (Option Nat))(g:TG)(tst:TT)(te:TE):TE:=λσ H Q=>wi σ H λJ H1=>∀p,H1 p=none->oE J g tst te p (λH'=>Q (.ref p) H') (ye cap σ) (upd H1 p (.lst []))
section
variable {X:Cx} {pins:List (Addr×Obj)} {σ:St} {H:Hp} {s:Shared}
def Inv.cellOf(I:Inv X pins σ H s){scope:Scope}(S:CSc X scope N' cap):∀y∈scope.names,y.2=.free->∃c,X.env.cells.lookup y.1=some c:=λy hy e=>I.ok.has y.1 (S.free y hy e)
def Inv.clLook(I:Inv X pins σ H s){scope:Scope}(S:CSc X scope N' cap)(e:(aM X.env scope.names []).lookup x=some c):X.env.cells.lookup x=some c:=by
 rcases jD scope.names [] x c (I.cellOf S) e with h | h
 ·cases h
 ·exact h
def Inv.compOk(I:Inv X pins σ H s){scope:Scope}(S:CSc X scope N' cap)(hC:s.heap.objs.size<=C)(hf:∀b∈fp,eA X pins H b)
  (ho:∀b∈fp,b<s.heap.objs.size):(cf X scope N' C s H fp E).Ok:=by
 have nst:∀b∈fp,b∉frs X.stack:=λb hb z=>by
  obtain ⟨_,f1,f2,_⟩:=hf b hb;rcases mem_cons.mp (I.stkSub b z) with e | e
  ·exact f1 e
  ·exact f2 e
 refine {I.ok.mod,S.kind,I.ok.glob,I.ok.blt,hC,λx y c h1 h2=>?_,λx hx=>?_,λx c h=>(by cases h),I.ok.hd,I.ok.frames,.inl rfl,λb hb=>{?_,λx c e=>?_},λb o e=>I.bs b o e,Nat.le_trans I.ok.bsz I.sz,λb o e hb=>?_,nst,I.stack,I.stkFree}
 ·exact I.ok.inj x y c (I.clLook S h1) (I.clLook S h2)
 ·have q:scope.names.lookup x=some .free:=oC S.nocell hx
  exact dz _ _ x (PySem.mem_of_lookup q)
 ·exact Nat.ne_of_lt (Nat.lt_of_lt_of_le (ho b hb) hC)
 ·exact (hf b hb).2.2.2.2.1 x c (I.clLook S e)
 ·rcases (hf b hb).2.2.2.1 with z | z
  ·exact I.ok.noex b o e z
  ·exact absurd (Nat.lt_of_lt_of_le (lt_size e) (Nat.le_trans I.ok.bsz z)) (lt_irrefl _)
def Inv.compStart(I:Inv X pins σ H s){scope:Scope}(S:CSc X scope N' cap){tk:Nat}
  (hD:s.heap.objs.size<=D) (hC:s.heap.objs.size<=C) (hDC:D≠C) (hf:∀b∈fp,eA X pins H b) (ho:∀b∈fp,b<s.heap.objs.size)
  (k:∀b o,s.heap.get? b=some o->h1.get? b=some o) (hd:h1.get? D=some { cls:=.type "list",data:=.seq #[] }) (hn:h1.Ns C m):
  Inv (cf X scope N' C s H fp E) [] (ye cap σ) (upd H D (.lst [])) { s with heap:=h1,toks:=tk }:=by
 have lt:∀b o,s.heap.get? b=some o->b≠D:=λb o e=>Nat.ne_of_lt (Nat.lt_of_lt_of_le (lt_size e) hD);refine ⟨I.compOk S hC hf ho,rfl,I.bare,Un.laid k hD (I.hok.fresh hD),{m,hn,λi x v e1 e2 e3=>?_},λx c e=>?_,?_,λx c e=>?_,λp hp=>absurd (show p∈([]:List (Addr×Obj)) from hp) (by simp),
  I.hok.laid k hD ⟨zero_le _,[],_,.nil,hd⟩,by unfold ye;rw[length_map];exact S.len⟩
 ·
  have e2':(cap.map λo=>o.bind λj=>(σ[j]?).join)[i]?=some (some v):=e2;rw[getElem?_map] at e2';cases hc:cap[i]? with
  | none=>rw[hc] at e2';cases e2'
  | some o=>
   rw[hc] at e2';have e2'':(o.bind λj=>(σ[j]?).join)=some v:=Option.some.inj e2';cases o with
   | none=>cases e2''
   | some j=>
    have hv:(σ[j]?).join=some v:=e2'';have hσ:σ[j]?=some (some v):=by
     cases q:σ[j]? with
     | none=>rw[q] at hv;cases hv
     | some w'=>rw[q] at hv;rw[show w'=some v from hv]
    have hi:i∈List.range cap.length:=mem_range.mpr (List.getElem?_eq_some_iff.mp hc).1;obtain ⟨a1,_,a3⟩:=S.cap i hi j (by rw[hc];rfl);have e1':N'[i]?=some x:=e1;rw[e1'] at a1 a3;have a3':scope.names.lookup x=some .free:=a3;have hk:=S.free _ (PySem.mem_of_lookup a3') rfl;have hk':X.env.kindOf x=some .cell\/X.env.kindOf x=some .free:=hk;obtain ⟨m0,hn0,hl⟩:=I.loc;obtain ⟨u,ru,lk⟩:=hl j x v a1.symm hσ (hk'.elim (λz=>.inr (.inl z)) λz=>.inr (.inr z));refine {u,ru,?_};rcases lk with ⟨z,_⟩ | ⟨_,c,ec,hcell⟩
    ·rcases hk' with q | q
     ·rw[z] at q;cases q
     ·rw[z] at q;cases q
    ·obtain ⟨c',ec'⟩:=dz (env:=X.env) scope.names [] x (PySem.mem_of_lookup a3')
     have:c'=c:=Option.some.inj ((I.clLook S ec').symm.trans ec);subst this;exact .inr {mF (env:=X.env) a3',c',ec',hcell.keeps k}
 ·obtain ⟨v,z⟩:=I.cell x c (I.clLook S e)
  exact {v,z.keeps k}
 ·show upd H D _ C=none
  rw[ae hDC.symm];exact I.hok.fresh hC
 ·obtain ⟨v,o,z,_⟩:=I.cell x c (I.clLook S e)
  rw[ae (lt c o z)];exact I.freeC x c (I.clLook S e)
def Inv.compBack{scope:Scope}{pins':List (Addr×Obj)}(I:Inv X pins σ H s)(hf:∀b∈fp,eA X pins H b)
  (J:Inv (cf X scope N' C s H fp E) pins' σ' H' s'):Inv X pins σ H' s':=
 I.call' (ch:=fp) J.os J.base J.hok J.bare λb hb=>⟨(hf b hb).2.2.2.1,(hf b hb).2.1,(hf b hb).2.2.2.2.1,(hf b hb).2.2.2.2.2⟩
def nC(X:Cx)(pins:List (Addr×Obj))(σ:St)(Q:VK)(acc:Value)(C:Addr)(r:Result)(s':Shared):Prop:=
 match r with
 | .ok _=>∃p H' m,acc=.ref p/\Inv X pins σ H' s'/\eA X pins H' C/\s'.heap.Ns C m/\Q (.ref p) H'
 | .error _=>False
def mG{scope:Scope}(hc:X.calm=true)(S:CSc X scope N' cap)(hi:PI X tg iter wi)
  (hg:∀C s2 H2 fp,PG (cf X scope N' C s2 H2 fp λ_ _=>False) tg g) (ht:∀C s2 H2 fp,yf (cf X scope N' C s2 H2 fp λ_ _=>False) ifs tst)
  (he:∀C s2 H2 fp,PE (cf X scope N' C s2 H2 fp λ_ _=>False) elt te) (I:Inv X pins σ H s) (h:vb wi cap g tst te σ H Q):
  wpAny (model X.prog X.w) X.A (eval iter X.env) (λx s1=>wpAny (model X.prog X.w) X.A (pyIter x) (λit s2=>wpAny (model X.prog X.w) X.A (newList []) (λacc s3=>
   wpAny (model X.prog X.w) X.A (newFunctionEnv scope X.env.globals (aM X.env scope.names []) [] X.env.qual none .none (some X.env)) (λcenv s4=>
    codeAny (model X.prog X.w) X.A (.compStart (.ListComp elt [⟨tg,iter,ifs,0⟩] scope pos) 0 it acc { cenv with scope:=relabel scope X.env }) (nC X pins σ Q acc cenv.locals) s4) X.xe s3) X.xe s2) X.xe s1) X.xe s:=by
 refine thn (hi pins s σ H _ I h) λv s1 h1=>thn h1 λitv s2 h2=>?_;obtain ⟨it,fp,tn,J,H2,e,I2,T,st2,f2,q⟩:=h2;subst e;have ho:∀b∈fp,b<s2.heap.objs.size:=λb hb=>by
  obtain ⟨o,e,_⟩:=T.obj _ _ st2 b hb;exact lt_size e
 refine wpAny_newObj_type (wpAny_newFunctionEnv S.nocell (by intro y hy;simp at hy) (λhp1 hns1 hsb1=>?_) S.kind);have hDn:s2.heap.objs.size≠(s2.heap.push { cls:=.type "list",dict:=none,data:=.seq ([]:List Value).toArray }).objs.size:=by rw[Heap.size_push];exact Nat.ne_of_lt (lt_succ_self _)
 have hCle:s2.heap.objs.size<=(s2.heap.push { cls:=.type "list",dict:=none,data:=.seq ([]:List Value).toArray }).objs.size:=by rw[Heap.size_push];exact le_succ _
 have old:∀b o,s2.heap.get? b=some o->hp1.get? b=some o:=λb o e=>
  hsb1.extBut b o (Nat.ne_of_lt (Nat.lt_of_lt_of_le (lt_size e) hCle)) (get?_push_of_some _ (get?_push_of_some _ e))
 have hacc:hp1.get? s2.heap.objs.size=some { cls:=.type "list",data:=.seq #[] }:=hsb1.extBut _ _ hDn (get?_push_of_some _ (get?_push_size _ rfl))
 let X':Cx:=cf X scope N' (s2.heap.push { cls:=.type "list",dict:=none,data:=.seq ([]:List Value).toArray }).objs.size s2 H2 fp λ_ _=>False
 obtain ⟨W,⟨m0,w0⟩,turn⟩:=q s2.heap.objs.size (I2.hok.fresh (Nat.le_refl _));have J0:Inv X' [] (ye cap σ) (upd H2 s2.heap.objs.size (.lst [])) { s2 with heap:=hp1,toks:=s2.toks+([]:List (Str×Value)).length }:=I2.compStart S (Nat.le_refl _) hCle hDn f2 ho old hacc hns1;have stat:∀{H':Hp},(∀b∈fp,H' b=none)->∀b∈fp,eA X' [] H' b:=λhn b hb=>by
  obtain ⟨_,g1,g2,g3,g4,g5⟩:=f2 b hb;refine {hn b hb,Nat.ne_of_lt (Nat.lt_of_lt_of_le (ho b hb) hCle),J0.ok.exfs b hb,.inl hb,λx c e=>g4 x c (I2.clLook S e),λp hp=>absurd (show p∈([]:List (Addr×Obj)) from hp) (by simp)}
 have fr0:∀b∈fp,upd H2 s2.heap.objs.size (.lst []) b=none:=λb hb=>by rw[ae (Nat.ne_of_lt (ho b hb))];exact (f2 b hb).1
 have loop:codeAny (model X.prog X.w) X.A (.compLoop (.ListComp elt [⟨tg,iter,ifs,0⟩] scope pos) 0 (.ref it) (.ref s2.heap.objs.size) X'.env)
   (nC X pins σ Q (.ref s2.heap.objs.size) (s2.heap.push { cls:=.type "list",dict:=none,data:=.seq ([]:List Value).toArray }).objs.size) { s2 with heap:=hp1,toks:=s2.toks+([]:List (Str×Value)).length }:=by
  refine tL rfl (λn s'=>∃i σ' H',Inv X' [] σ' H' s'/\tn i s'.heap/\(∀b∈fp,H' b=none)/\W i n σ' H') ?_ m0 {0,_,_,J0,T.keep _ _ _ st2 λb _ o e=>old b o e,fr0,w0};rintro n s3 ⟨i,σ3,H3,I3,st3,fr3,w3⟩;have no:∀(e:Value) (s':Shared),X'.xe e s'->notedBy (model X.prog X.w) X.A X'.env (λe s'=>nC X pins σ Q (.ref s2.heap.objs.size) (s2.heap.push { cls:=.type "list",dict:=none,data:=.seq ([]:List Value).toArray }).objs.size (.error e) s') e s':=λ_ _ z=>z.elim;rcases turn i n σ3 H3 w3 with ⟨stop,qn⟩ | ⟨go,N,hN,step⟩
  ·refine wpAny_mono (T.done X' rfl rfl rfl hc i [] s3 σ3 H3 X'.xe I3 (stat fr3) st3 stop) (λr s4 ⟨hr,I4⟩=>?_) no
   subst hr;obtain ⟨mC,hmC,_⟩:=I4.loc;exact {_,H3,mC,rfl,I2.compBack f2 I4,I2.fpOk hCle I4.free,hmC,qn}
  ·refine wpAny_mono (T.item X' rfl rfl rfl hc i [] s3 σ3 H3 X'.xe I3 (stat fr3) st3 go) (λr s4 ⟨u,hr,h4⟩=>?_) no
   subst hr;refine wpAny_mono h4 (λ_ s5 ⟨x,H5,I5,r5,y5,st5,fr5⟩=>?_) no;have I5':=I5.pinned (stat fr5) (T.obj _ _ st5);refine wpAny_mono (hg _ _ _ _ _ s5 σ3 H5 x u _ I5' r5 (step x H5 y5)) (λ_ s6 ⟨σ6,H6,I6,q6⟩=>?_) no;refine wpAny_mono (ht _ _ _ _ _ s6 σ6 H6 _ I6 q6) (λok s7 ⟨H7,I7,q7⟩=>?_) no;have again:∀{σ7:St} {H7:Hp} {s7:Shared},Inv X' ([]++kD fp s5.heap) σ7 H7 s7->N σ7 H7->∃m,m<n/\∃i σ' H',Inv X' [] σ' H' s7/\tn i s7.heap/\(∀b∈fp,H' b=none)/\W i m σ' H':=λ{σ7 H7 s7} I7 n7=>by
    obtain ⟨m',hm,w7⟩:=hN σ7 H7 n7;refine {m',hm,i+1,σ7,H7,I7.unpinned,T.keep _ _ _ st5 λb hb o e=>(I7.pin (b,o) (mem_append_right _ (mem_append_right _ (fj hb e)))).1,λb hb=>?_,w7};obtain ⟨o,e,d⟩:=T.obj _ _ st5 b hb;exact (I7.pin (b,o) (mem_append_right _ (mem_append_right _ (fj hb e)))).2.1
   cases ok with
   | false=>exact again I7 q7
   | true=>
    refine wpAny_mono (he _ _ _ _ _ s7 σ6 H7 _ I7 q7) (λy s8 ⟨z,H8,I8,r8,xs,e8,l8,q8⟩=>?_) no;refine wpAny_mono (mD (X:=X') _ s8 σ6 H8 (.ref s2.heap.objs.size) [z] (.ref s2.heap.objs.size) [y] (λ_ H9=>N σ6 H9) I8 rfl (.cons r8 .nil) {_,xs,z,rfl,rfl,e8,l8,q8}) (λ_ s9 ⟨_,H9,I9,_,q9⟩=>?_) no;exact again I9 q9
 exact codeAny_compStart_list loop (T.self _ 0 _ _ _ (T.keep _ _ _ st2 λb _ o e=>old b o e) loop)
def rP{scope:Scope}(hc:X.calm=true)(S:CSc X scope N' cap)(hi:PI X tg iter wi)
  (hg:∀C s2 H2 fp,PG (cf X scope N' C s2 H2 fp λ_ _=>False) tg g) (ht:∀C s2 H2 fp,yf (cf X scope N' C s2 H2 fp λ_ _=>False) ifs tst)
  (he:∀C s2 H2 fp,PE (cf X scope N' C s2 H2 fp λ_ _=>False) elt te) (hs:∀x,foldedSetIterable iter X.env x=pure x:=by intro _;rfl):
  PE X (.ListComp elt [⟨tg,iter,ifs,0⟩] scope pos) (vb wi cap g tst te):=by
 intro pins s σ H Q I h;rw[eval_ListComp];refine wpAny_comprehension_free (use:=none) rfl hs (iy (I.cellOf S)) S.kind S.names (thn (mG (Q:=Q) hc S hi hg ht he I h) λxv s1 h1=>thn h1 λit s2 h2=>thn h2 λacc s3 h3=>thn h3 λcenv s4 h4=>codeAny_mono h4 λr s5 h5=>?_);cases r with
 | error e=>exact False.elim h5
 | ok fl=>
  obtain ⟨p,H',m,rfl,I',F',hn,q⟩:=h5;refine {m,hn,λh' sb=>{.ref p,H',?_,rfl,q}};exact I'.turned (t':=s5.toks) (λb o hb e=>sb.extBut b o hb e) F'.1 F'.2.1 F'.2.2.2.1 F'.2.2.2.2.1 F'.2.2.2.2.2
def kY{scope:Scope}(hN:X.N.Nodup)(hx:X.N[i]?=some x)(hl:X.env.scope.names.lookup x=some .local)
  (hc:X.calm=true) (S:CSc X scope N' cap) (hi:PI X tg iter wi)
  (hg:∀C s2 H2 fp,PG (cf X scope N' C s2 H2 fp λ_ _=>False) tg g) (ht:∀C s2 H2 fp,yf (cf X scope N' C s2 H2 fp λ_ _=>False) ifs tst)
  (he:∀C s2 H2 fp,PE (cf X scope N' C s2 H2 fp λ_ _=>False) elt te)
  (hsw:swapsWith (.ListComp elt [⟨tg,iter,ifs,0⟩] scope cpos) (some (.Name x pos')) pos.line X.env=pure true:=by rfl) (hs:∀x,foldedSetIterable iter X.env x=pure x:=by intro _;rfl):
  PS X (.Assign [.Name x pos'] (.ListComp elt [⟨tg,iter,ifs,0⟩] scope cpos) pos) (Aj (vb wi cap g tst te) (rf i)):=by
 intro pins s σ H D I h;rw[exec_Assign_Name_used _ _ _ _ hsw];refine wpAny_bind (wpAny_standAt (wpAny_bind ?_));show wpAny (model X.prog X.w) X.A (do let _ <- comprehension (.ListComp elt [⟨tg,iter,ifs,0⟩] scope cpos) scope X.env _ (newList []) false (eval iter X.env) (some (assign (.Name x pos') X.env))) _ _ s;refine wpAny_bind (thn (wpAny_comprehension_free (use:=some (assign (.Name x pos') X.env)) (Q:=λ_ s'=>SP X pins D .next s') rfl hs (iy (I.cellOf S)) S.kind S.names
  (thn (mG (Q:=λv H1=>rf i v σ H1 D.nx) hc S hi hg ht he I h) λxv s1 h1=>thn h1 λit s2 h2=>thn h2 λacc s3 h3=>thn h3 λcenv s4 h4=>codeAny_mono h4 λr s5 h5=>?_)) λ_ s' hq=>wpAny_pure (wpAny_pure hq))
 cases r with
 | error e=>exact False.elim h5
 | ok fl=>
  obtain ⟨p,H',m,rfl,I',F',hn,q⟩:=h5;refine (wpAny_assign_Name (mo (v:=V.ref p) I' hN hx (.inl hl) rfl (λs6 I6 ⟨a,sb6,ha⟩=>?_) (.inr hl)):wpAny (model X.prog X.w) X.A (assign (.Name x pos') X.env (.ref p)) _ _ s5);have aC:cenv.locals≠a:=by
   rcases ha with z | z
   ·rw[z];exact F'.2.1
   ·exact λw'=>F'.2.2.2.2.1 _ _ z w'.symm
  refine {m,hn.sameBut sb6 aC,λh' sb=>{_,H',?_,q}};exact I6.turned (t':=s6.toks) (λb o hb e=>sb.extBut b o hb e) F'.1 F'.2.1 F'.2.2.2.1 F'.2.2.2.2.1 F'.2.2.2.2.2
end
def bf{K:PySem.W.Frag}{a p:Addr}{xs:List V}{g:TG}{tst:TT}{te:TE}{Q:Hp->Prop}{σ:St}{H:Hp}(Pv:Nat->St->Hp->Prop)(h0:Pv 0 σ H)(hl:∀i σ H,i<=xs.length->Pv i σ H->SqL K H a xs)
  (hs:∀i x σ H,xs[i]?=some x->Pv i σ H->g x σ H λσ2 H2=>tst σ2 H2 λc H3=>if c=true then te σ2 H3 λy H4=>∃ys,H4 p=some (.lst ys)/\ys.length<sizeLine/\Pv (i+1) σ2 (upd H4 p (.lst (ys++[y]))) else Pv (i+1) σ2 H3)
  (hd:∀σ H,Pv xs.length σ H->Q H):oE (Itl K a) g tst te p Q σ H:=by
 refine {λi m σ H=>m=xs.length-i/\i<=xs.length/\Pv i σ H,⟨xs.length,by simp,zero_le _,h0⟩,?_};rintro i m σ H ⟨rfl,hi,p⟩;have q:=hl i σ H hi p
 by_cases hlt:i<xs.length
 ·refine .inr {⟨xs,xs[i],q,by simp[hlt]⟩,Pv (i+1),λσ' H' p'=>{xs.length-(i+1),(),rfl,hlt,p'},λx H' y=>?_}
  obtain ⟨e,y⟩:=y;subst e;exact hs i x σ _ (y xs q) p
 ·have e:i=xs.length:=()
  subst e;exact .inl {{xs,q,Nat.le_refl _},hd σ H p}
def dW{p:Addr}{lo:Int}{n:Nat}{g:TG}{tst:TT}{te:TE}{Q:Hp->Prop}{σ:St}{H:Hp}(Pv:Nat->St->Hp->Prop)(h0:Pv 0 σ H)
  (hs:∀i σ H,i<n->Pv i σ H->g (.int (lo+i)) σ H λσ2 H2=>tst σ2 H2 λc H3=>if c=true then te σ2 H3 λy H4=>∃ys,H4 p=some (.lst ys)/\ys.length<sizeLine/\Pv (i+1) σ2 (upd H4 p (.lst (ys++[y]))) else Pv (i+1) σ2 H3)
  (hd:∀σ H,Pv n σ H->Q H):oE (Itr lo n) g tst te p Q σ H:=by
 refine {λi m σ H=>m=n-i/\i<=n/\Pv i σ H,⟨n,by simp,zero_le _,h0⟩,?_};rintro i m σ H ⟨rfl,hi,p⟩
 by_cases hlt:i<n
 ·refine .inr {hlt,Pv (i+1),λσ' H' p'=>{n-(i+1),(),rfl,hlt,p'},λx H' y=>?_}
  obtain ⟨e,y⟩:=y;subst e y;exact hs i σ _ hlt p
 ·have e:i=n:=()
  subst e;exact .inl {Nat.le_refl _,hd σ H p}
section
variable {X:Cx} {pins:List (Addr×Obj)} {σ:St} {H:Hp} {s:Shared} {h':Heap}
def Inv.turnedLaid{t':Nat}{ch:List Addr}{a:Addr}{o:HO}(I:Inv X pins σ H s)(hf:∀b∈ch,eA X pins H b)(k:∀b ob,b∉ch->s.heap.get? b=some ob->h'.get? b=some ob)(hp:s.heap.objs.size<=a)
  (new:aE X.prog X.w (upd H a o) h' a o):Inv X pins σ (upd H a o) { s with heap:=h',toks:=t' }:=by
 have hn:=I.hok.fresh hp;have ntr:∀b u,H b=some u->b∉ch:=λb u e hb=>by
  have z:=(hf b hb).1;rw[z] at e;cases e
 have lt:∀b ob,s.heap.get? b=some ob->b≠a:=λb ob e=>Nat.ne_of_lt (Nat.lt_of_lt_of_le (lt_size e) hp);refine I.step (g':=s.gens) (d':=s.drawn) (ch:=ch) (λb hb=>{(hf b hb).2.2.2.1,(hf b hb).2.1,(hf b hb).2.2.2.2.1,(hf b hb).2.2.2.2.2}) (λb ob _ _ hc e _=>k b ob hc e) (λb ob _ _ hc e _=>{ob.slots,k b ob hc e})
  (λb ob _ e n=>by rw[ae (lt b ob e)];exact n) (λb ob hc e=>{ob,k b ob hc e}) (λb xs e=>by rw[ae (af e hn)];exact e) (λb ob u e=>by rw[ae (af e hn)];exact e)
  (λb pl y e=>by rw[ae (af e hn)];exact e) (λm hm=>?_) (λb u e=>?_) I.bare
 ·obtain ⟨ob,es,ep,ho,r⟩:=hm
  exact {ob,es,ep,k _ ob (λz=>(hf _ z).2.1 rfl) ho,r}
 ·by_cases hb:b=a
  ·subst hb
   rw[aa] at e;cases e;exact new
  ·rw[ae hb] at e
   refine (I.hok b u e).stay (λc v hc q=>k c v ?_ q) (λc q=>by rw[ae (af q hn)];exact q) (λc xs q=>by rw[ae (af q hn)];exact q) λc ob y q=>by rw[ae (af q hn)];exact q
   rcases hc with rfl | hc
   ·exact ntr c u e
   ·exact ntr c _ hc
def Inv.turnedAll{t':Nat}{ch:List Addr}(I:Inv X pins σ H s)(hf:∀b∈ch,eA X pins H b)(k:∀b ob,b∉ch->s.heap.get? b=some ob->h'.get? b=some ob):Inv X pins σ H { s with heap:=h',toks:=t' }:=by
 have ntr:∀b u,H b=some u->b∉ch:=λb u e hb=>by
  have z:=(hf b hb).1;rw[z] at e;cases e
 refine I.step (g':=s.gens) (d':=s.drawn) (ch:=ch) (λb hb=>{(hf b hb).2.2.2.1,(hf b hb).2.1,(hf b hb).2.2.2.2.1,(hf b hb).2.2.2.2.2}) (λb ob _ _ hc e _=>k b ob hc e) (λb ob _ _ hc e _=>{ob.slots,k b ob hc e})
  (λb ob _ _ n=>n) (λb ob hc e=>⟨ob,k b ob hc e⟩) (λb xs e=>e) (λb ob u e=>e) (λb pl y e=>e) (λm hm=>?_) (λb u e=>?_) I.bare
 ·obtain ⟨ob,es,ep,ho,r⟩:=hm
  exact {ob,es,ep,k _ ob (λz=>(hf _ z).2.1 rfl) ho,r}
 ·refine (I.hok b u e).stay (λc v hc q=>k c v ?_ q) (λc q=>q) (λc xs q=>q) λc ob y q=>q
  rcases hc with rfl | hc
  ·exact ntr c u e
  ·exact ntr c _ hc
end
def Ite(K:PySem.W.Frag)(a:Addr):It:=
 ⟨λi H=>∃xs x,SqL K H a xs/\xs[i]?=some x,λi H v H'=>∃t x,v=.ref t/\H t=none/\H'=upd H t (.tup [.int i,x])/\∀xs,SqL K H a xs->xs[i]?=some x,λi H=>∃xs,SqL K H a xs/\xs.length<=i⟩
def nD {P:Program} {w:World} (r:aq xs us) (hz:xs.length<=sizeLine) (e:h.get? a=some { cls:=.type "tuple",data:=.seq us.toArray n }):aE P w H h a (.tup xs):=
 ⟨hz,us,r,_,e,rfl,_,rfl⟩
def tM{P:Program}{w:World}{K:PySem.W.Frag}{es:List Expr}{k:Nat}{pos:Pos}(a e it:Addr)(hei:e≠it):sY P w K (.Tuple es k pos) (Ite K a) [e,it] e (λi h=>(∃old,IsEnum h e it i old)/\h.IsListIter it a i) where
 mem:=by simp
 obj:=λi h st b hb=>by
  obtain ⟨⟨old,he⟩,o,ho,c,d⟩:=st;rcases mem_cons.mp hb with z | hb
  ·subst z
   exact ⟨_,he,λv q=>by
    have q':Data.fields _=Data.cell v:=q;cases q'⟩
  ·have z:b=it:=by simpa using hb
   subst z;exact ⟨o,ho,λv q=>by rw[d] at q;cases q⟩
 keep:=λi h h' st k=>⟨let ⟨old,he⟩:=st.1;⟨old,k e (by simp) _ he⟩,st.2.at λo q=>k it (by simp) o q⟩
 item:=by
  intro X hP hw hK hc i pins s σ H E I hf st hg;subst hP hw hK;obtain ⟨xs,x,hq,hx⟩:=hg;obtain ⟨its,rv,p,hz⟩:=I.list hq;obtain ⟨u,hu,ru⟩:=rv.get hx;obtain ⟨⟨old,he⟩,hit⟩:=st;refine wpAny_pyNext_enum_item he hit p.isList (x:=u) (by simpa using hu) hei λh1 ho hit1 hT hsz hk=>{_,rfl,?_};have hel:e<s.heap.objs.size:=lt_size he;have hil:it<s.heap.objs.size:=by obtain ⟨_,q,_⟩:=hit;exact lt_size q
  refine wpAny_letOwnedTupleGo_enum ho λh2 he2 hs2=>?_;refine ⟨.ref s.heap.objs.size,upd H s.heap.objs.size (.tup [.int i,x]),?_,rfl,⟨_,x,rfl,I.hok.fresh (Nat.le_refl _),rfl,λys hy=>by rw[I.list_inj hy hq];exact hx⟩,{⟨u,by simpa using he2⟩,hit1.at λo q=>(hs2.2 it hei.symm).trans q},λb hb=>?_⟩
  ·refine I.turnedLaid (ch:=[e,it]) hf (λb ob hb q=>(hs2.2 b λz=>hb (by simp[z])).trans (hk b ob (λz=>hb (by simp[z])) (λz=>hb (by simp[z])) q)) (Nat.le_refl _) ?_
   exact nD (us:=[.int i s.toks,u]) (.cons {_,rfl} (.cons ru .nil)) (by show 2<=sizeLine;decide) ((hs2.2 _ (ne_of_gt hel)).trans hT)
  ·have hbl:b<s.heap.objs.size:=by
    rcases mem_cons.mp hb with z | hb
    ·rw[z];exact hel
    ·rw[show b=it by simpa using hb];exact hil
   rw[ae (Nat.ne_of_lt hbl)];exact (hf b hb).1
 done:=by
  intro X hP hw hK hc i pins s σ H E I hf st hg;subst hP hw hK;obtain ⟨xs,hq,hx⟩:=hg;obtain ⟨its,rv,p,hz⟩:=I.list hq;obtain ⟨⟨old,he⟩,hit⟩:=st;have hl:=rv.length;exact wpAny_pyNext_enum_end (I.ok.hd hc) he hit p.isList (by simp;omega) λh1 eb=>⟨rfl,I.turnedAll (t':=s.toks) (ch:=[e,it]) hf λb ob hb q=>eb b ob (λz=>hb (by simp[z])) q⟩
 self:=λ_ _ _ _ _ st h=>let ⟨⟨_,he⟩,_⟩:=st;wpAny_pyIter_enum he h
def tN:bootBuiltins ("enumerate":Str)=some (.type "enumerate"):=by first | exact PyProof.Rows.Boot.«enumerate» | exact PySem.boot_enumerate | rfl | decide +kernel
def mH:bootBuiltins ("zip":Str)=some (.type "zip"):=by first | exact PyProof.Rows.Boot.«zip» | exact PySem.boot_zip | rfl | decide +kernel
inductive iEn(K:PySem.W.Frag)(vs:List V)(H:Hp)(R:It->Hp->Prop):Prop
 | mk (a:_):vs=[.ref a]->(∃xs,SqL K H a xs)->R (Ite K a) H->iEn K vs H R
def zD(K:PySem.W.Frag)(ta:TA):TI:=λσ H R=>ta σ H λvs H1=>iEn K vs H1 R
def yg {X:Cx} {es:List Expr} {k:Nat} {tpos:Pos} {l:Expr} {ta:TA} {p pos:Pos} (hg:Gl X "enumerate") (hm:X.mg "enumerate"=none) (ha:PA X [l] ta) (hs:starEach [l] X.env=[(false,eval l X.env)]:=by rfl):PI X (.Tuple es k tpos) (.Call (.Name "enumerate" p) [l] [] pos) (zD X.K ta):=by
 intro pins s σ H R I h;refine Call_ (du I hg hm tN (PyProof.Rows.callWith_type1 (thn (ha pos pins s σ H _ I h) λus s1 ⟨vs,H1,I1,r1,q1⟩=>?_) hs rfl));obtain ⟨a,e,⟨xs,hq⟩,q⟩:=q1;subst e;obtain ⟨u,rfl,ru⟩:=eM r1;cases ru;obtain ⟨its,rv,pl,hz⟩:=I1.list hq;refine call_enumerate_list pl.isList λh1 he hit hsz hk=>?_;have I2:Inv X pins σ H1 { s1 with heap:=h1 }:=I1.kept (t':=s1.toks) hk;refine wpAny_pyIter_enum he {s1.heap.objs.size+1,[s1.heap.objs.size+1,s1.heap.objs.size],_,_,H1,rfl,I2,tM a _ _ (ne_of_gt (lt_succ_self _)),{{_,he},hit},λb hb=>?_,q};have hbl:s1.heap.objs.size<=b:=by
  rcases mem_cons.mp hb with z | hb
  ·rw[z];exact le_succ _
  ·rw[show b=s1.heap.objs.size by simpa using hb];exact Nat.le_refl _
 exact I1.fpOk hbl (I1.hok.fresh hbl)
def Itz(K:PySem.W.Frag)(a b:Addr):It:=
 ⟨λi H=>∃xs ys x y,SqL K H a xs/\SqL K H b ys/\xs[i]?=some x/\ys[i]?=some y,
  λi H v H'=>∃t x y,v=.ref t/\H t=none/\H'=upd H t (.tup [x,y])/\(∀xs,SqL K H a xs->xs[i]?=some x)/\∀ys,SqL K H b ys->ys[i]?=some y,
  λi H=>∃xs ys,SqL K H a xs/\SqL K H b ys/\(xs.length<=i\/ys.length<=i)⟩
def BY{i1 i2 TI TO z l1 l2:Nat}(h1:i1<i2)(h2:i2<TI)(h3:TI<TO)(h4:TO<z)(ha:l1<i1)(hb:l2<i1):ZipApart z TI TO i1 i2 l1 l2:=by
 refine {?_,?_,?_,?_,?_,?_,?_,?_,?_,?_,?_,?_,?_,?_,?_,?_,?_,?_}<;>first | exact Nat.ne_of_lt () | exact ne_of_gt ()
def vc{P:Program}{w:World}{K:PySem.W.Frag}{es:List Expr}{k:Nat}{pos:Pos}(a b z TI TO i1 i2:Addr)(D:ZipApart z TI TO i1 i2 a b):
  sY P w K (.Tuple es k pos) (Itz K a b) [z,TI,TO,i1,i2] z (λi h=>IsZip h z TI TO .none/\IsPair h TI (.ref i1) (.ref i2)/\(∃x y,IsPair h TO x y)/\h.IsListIter i1 a i/\h.IsListIter i2 b i) where
 mem:=by simp
 obj:=λi h st c hb=>by
  obtain ⟨hz,hTI,⟨x,y,hTO⟩,⟨o1,e1,c1,d1⟩,o2,e2,c2,d2⟩:=st;simp only[mem_cons,not_mem_nil,or_false] at hb;rcases hb with rfl | rfl | rfl | rfl | rfl
  ·exact ⟨_,hz,λv q=>by
    have q':Data.fields _=Data.cell v:=q;cases q'⟩
  ·exact ⟨_,hTI,λv q=>by
    have q':Data.seq _ _=Data.cell v:=q;cases q'⟩
  ·exact ⟨_,hTO,λv q=>by
    have q':Data.seq _ _=Data.cell v:=q;cases q'⟩
  ·exact ⟨_,e1,λv q=>by rw[d1] at q;cases q⟩
  ·exact ⟨_,e2,λv q=>by rw[d2] at q;cases q⟩
 keep:=λi h h' st k=>⟨k z (by simp) _ st.1,k TI (by simp) _ st.2.1,let ⟨x,y,q⟩:=st.2.2.1;⟨x,y,k TO (by simp) _ q⟩,st.2.2.2.1.at λo q=>k i1 (by simp) o q,st.2.2.2.2.at λo q=>k i2 (by simp) o q⟩
 item:=by
  intro X hP hw hK hc i pins s σ H E I hf st hg;subst hP hw hK;obtain ⟨xs,ys,x,y,hq1,hq2,hx,hy⟩:=hg;obtain ⟨its1,rv1,p1,hz1⟩:=I.list hq1;obtain ⟨its2,rv2,p2,hz2⟩:=I.list hq2;obtain ⟨u1,hu1,ru1⟩:=rv1.get hx;obtain ⟨u2,hu2,ru2⟩:=rv2.get hy;obtain ⟨hz,hTI,⟨x0,y0,hTO⟩,hi1,hi2⟩:=st;refine wpAny_pyNext_zip_item D hz hTI hTO hi1 hi2 p1.isList p2.isList (x:=u1) (y:=u2) (by simpa using hu1) (by simpa using hu2) λh1 gz gTO g1 g2 gT gsz gk=>{_,rfl,?_};have lz:z<s.heap.objs.size:=lt_size hz;have lT:∀c∈[z,TI,TO,i1,i2],c<s.heap.objs.size:=λc hb=>by
   simp only[mem_cons,not_mem_nil,or_false] at hb;rcases hb with rfl | rfl | rfl | rfl | rfl
   ·exact lz
   ·exact lt_size hTI
   ·exact lt_size hTO
   ·obtain ⟨_,q,_⟩:=hi1;exact lt_size q
   ·obtain ⟨_,q,_⟩:=hi2;exact lt_size q
  refine wpAny_letOwnedTupleGo_zip gz λh2 gz2 hs2=>?_;refine ⟨.ref s.heap.objs.size,upd H s.heap.objs.size (.tup [x,y]),?_,rfl,⟨_,x,y,rfl,I.hok.fresh (Nat.le_refl _),rfl,λvs hv=>by rw[I.list_inj hv hq1];exact hx,λvs hv=>by rw[I.list_inj hv hq2];exact hy⟩,
   ⟨gz2,hs2.extBut _ _ D.TIz (gk _ _ D.TIz D.TITO D.TIi1 D.TIi2 hTI),⟨_,_,hs2.extBut _ _ D.TOz gTO⟩,g1.at λo q=>hs2.extBut _ _ D.i1z q,g2.at λo q=>hs2.extBut _ _ D.i2z q⟩,λc hb=>?_⟩
  ·refine I.turnedLaid (ch:=[z,TI,TO,i1,i2]) hf (λc ob hb q=>hs2.extBut _ _ (λe=>hb (by simp[e])) (gk c ob (λe=>hb (by simp[e])) (λe=>hb (by simp[e])) (λe=>hb (by simp[e])) (λe=>hb (by simp[e])) q)) (Nat.le_refl _) ?_
   exact nD (us:=[u1,u2]) (.cons ru1 (.cons ru2 .nil)) (by show 2<=sizeLine;decide) (hs2.extBut _ _ (ne_of_gt lz) gT)
  ·rw[ae (Nat.ne_of_lt (lT c hb))]
   exact (hf c hb).1
 done:=by
  intro X hP hw hK hc i pins s σ H E I hf st hg;subst hP hw hK;obtain ⟨xs,ys,hq1,hq2,hx⟩:=hg;obtain ⟨its1,rv1,p1,hz1⟩:=I.list hq1;obtain ⟨its2,rv2,p2,hz2⟩:=I.list hq2;obtain ⟨hz,hTI,⟨x0,y0,hTO⟩,hi1,hi2⟩:=st;have hl1:=rv1.length;have hl2:=rv2.length;refine wpAny_pyNext_zip_end (I.ok.hd hc) D hz hTI hTO hi1 hi2 p1.isList p2.isList ?_ λh1 eb=>{rfl,I.turnedAll (t':=s.toks) (ch:=[z,TI,TO,i1,i2]) hf λc ob hb q=>eb c ob (λe=>hb (by simp[e])) (λe=>hb (by simp[e])) (λe=>hb (by simp[e])) (λe=>hb (by simp[e])) q};rcases hx with hx | hx
  ·exact .inl (by simp;omega)
  ·exact .inr (by simp;omega)
 self:=λ_ _ _ _ _ st h=>wpAny_pyIter_zip st.1 h
inductive iZp(K:PySem.W.Frag)(vs:List V)(H:Hp)(R:It->Hp->Prop):Prop
 | mk (a:_) (b:_):vs=[.ref a,.ref b]->(∃xs,SqL K H a xs)->(∃ys,SqL K H b ys)->R (Itz K a b) H->iZp K vs H R
def BZ(K:PySem.W.Frag)(ta:TA):TI:=λσ H R=>ta σ H λvs H1=>iZp K vs H1 R
def AS {X:Cx} {es:List Expr} {k:Nat} {tpos:Pos} {l m:Expr} {ta:TA} {p pos:Pos} (hg:Gl X "zip") (hm:X.mg "zip"=none) (ha:PA X [l,m] ta) (hs:starEach [l,m] X.env=[(false,eval l X.env),(false,eval m X.env)]:=by rfl) (hs2:starEach [m] X.env=[(false,eval m X.env)]:=by rfl):
  PI X (.Tuple es k tpos) (.Call (.Name "zip" p) [l,m] [] pos) (BZ X.K ta):=by
 intro pins s σ H R I h;refine Call_ (du I hg hm mH (PyProof.Rows.callWith_type1 (thn (ha pos pins s σ H _ I h) λus s1 ⟨vs,H1,I1,r1,q1⟩=>?_) (by rw[hs,hs2]) (by rw[hs2];rfl)));obtain ⟨a,b,e,⟨xs,hq1⟩,⟨ys,hq2⟩,q⟩:=q1;subst e;obtain ⟨u,w',rfl,ru,rw'⟩:=ow r1;cases ru;cases rw';obtain ⟨its1,rv1,p1,hz1⟩:=I1.list hq1;obtain ⟨its2,rv2,p2,hz2⟩:=I1.list hq2;have la:a<s1.heap.objs.size:=by obtain ⟨_,o,_⟩:=p1.isList;exact lt_size o
 have lb:b<s1.heap.objs.size:=by obtain ⟨_,o,_⟩:=p2.isList;exact lt_size o
 refine call_zip_2 p1.isList p2.isList λh1 gz gTI gTO g1 g2 gsz hk=>?_;have I2:Inv X pins σ H1 { s1 with heap:=h1 }:=I1.kept (t':=s1.toks) hk;have D:ZipApart (s1.heap.objs.size+4) (s1.heap.objs.size+2) (s1.heap.objs.size+3) s1.heap.objs.size (s1.heap.objs.size+1) a b:=BY (i1:=s1.heap.objs.size) (lt_succ_self _) (lt_succ_self _) (lt_succ_self _) (lt_succ_self _) la lb;refine wpAny_pyIter_zip gz {s1.heap.objs.size+4,[s1.heap.objs.size+4,s1.heap.objs.size+2,s1.heap.objs.size+3,s1.heap.objs.size,s1.heap.objs.size+1],_,_,H1,rfl,I2,vc a b _ _ _ _ _ D,{gz,gTI,{_,_,gTO},g1,g2},λc hb=>?_,q};have hbl:s1.heap.objs.size<=c:=by
  simp only[mem_cons,not_mem_nil,or_false] at hb;rcases hb with rfl | rfl | rfl | rfl | rfl<;>first | exact Nat.le_refl _ | exact Nat.le_add_right _ _
 exact I1.fpOk hbl (I1.hok.fresh hbl)
def oF{K:PySem.W.Frag}{a:Addr}{xs:List V}{g:TG}{tb:TS}{D:cR}{σ:St}{H:Hp}(Pv:Nat->St->Hp->Prop)(h0:Pv 0 σ H)(hl:∀i σ H,i<=xs.length->Pv i σ H->SqL K H a xs)
  (hs:∀i x t σ H,xs[i]?=some x->Pv i σ H->H t=none->g (.ref t) σ (upd H t (.tup [.int i,x])) λσ2 H2=>tb (D.lp (Pv (i+1))) σ2 H2) (hd:∀σ H,Pv xs.length σ H->D.nx σ H):
  ∃W:Nat->Nat->St->Hp->Prop,(∃m,W 0 m σ H)/\∀i m σ H,W i m σ H->
   ((Ite K a).stop i H/\D.nx σ H)\/((Ite K a).go i H/\∃N:St->Hp->Prop,(∀σ' H',N σ' H'->∃m',m'<m/\W (i+1) m' σ' H')/\∀x H',(Ite K a).yld i H x H'->g x σ H' λσ2 H2=>tb { D with nx:=N,ct:=N,bk:=D.nx } σ2 H2):=by
 refine {λi m σ H=>m=xs.length-i/\i<=xs.length/\Pv i σ H,⟨xs.length,by simp,zero_le _,h0⟩,?_};rintro i m σ H ⟨rfl,hi,p⟩;have q:=hl i σ H hi p
 by_cases hlt:i<xs.length
 ·refine .inr {⟨xs,xs[i],q,by simp[hlt]⟩,Pv (i+1),λσ' H' p'=>{xs.length-(i+1),(),rfl,hlt,p'},λx H' y=>?_}
  obtain ⟨t,z,rfl,hn,rfl,y⟩:=y;exact hs i z t σ H (y xs q) p hn
 ·have e:i=xs.length:=()
  subst e;exact .inl {{xs,q,Nat.le_refl _},hd σ H p}
def mI{K:PySem.W.Frag}{a b p:Addr}{xs ys:List V}{g:TG}{tst:TT}{te:TE}{Q:Hp->Prop}{σ:St}{H:Hp}(Pv:Nat->St->Hp->Prop)(h0:Pv 0 σ H)(hl:∀i σ H,Pv i σ H->SqL K H a xs/\SqL K H b ys)
  (hs:∀i x y t σ H,xs[i]?=some x->ys[i]?=some y->Pv i σ H->H t=none->g (.ref t) σ (upd H t (.tup [x,y])) λσ2 H2=>tst σ2 H2 λc H3=>if c=true then te σ2 H3 λy H4=>∃zs,H4 p=some (.lst zs)/\zs.length<sizeLine/\Pv (i+1) σ2 (upd H4 p (.lst (zs++[y]))) else Pv (i+1) σ2 H3)
  (hd:∀σ H,Pv (min xs.length ys.length) σ H->Q H):oE (Itz K a b) g tst te p Q σ H:=by
 refine {λi m σ H=>m=min xs.length ys.length-i/\i<=min xs.length ys.length/\Pv i σ H,⟨min xs.length ys.length,by simp,zero_le _,h0⟩,?_};rintro i m σ H ⟨rfl,hi,p⟩;obtain ⟨q1,q2⟩:=hl i σ H p
 by_cases hlt:i<min xs.length ys.length
 ·have l1:i<xs.length:=()
  have l2:i<ys.length:=()
  refine .inr {⟨xs,ys,xs[i],ys[i],q1,q2,by simp[l1],by simp[l2]⟩,Pv (i+1),λσ' H' p'=>{min xs.length ys.length-(i+1),(),rfl,hlt,p'},λx H' y=>?_};obtain ⟨t,z,z',rfl,hn,rfl,y1,y2⟩:=y;exact hs i z z' t σ H (y1 xs q1) (y2 ys q2) p hn
 ·have e:i=min xs.length ys.length:=()
  subst e;exact .inl {{xs,ys,q1,q2,()},hd σ H p}
section
variable {X:Cx}
def vd{bs:List Bool}{us:List Value}(r:aq (bs.map V.bl) us){i:Nat}{v:Value}(e:us[i]?=some v):∃b,bs[i]?=some b/\v=.bool b:=by
 have hi:i<us.length:=(List.getElem?_eq_some_iff.mp e).1;have hb:i<bs.length:=by
  have:=r.length;rw[length_map] at this;omega
 obtain ⟨u,hu,ru⟩:=r.get (i:=i) (x:=.bl bs[i]) (by rw[getElem?_map,List.getElem?_eq_getElem hb];rfl);rw[e] at hu;cases hu;exact {bs[i],List.getElem?_eq_getElem hb,ru}
def tO(bs:List Bool):(List.range bs.length).any (λi=>bs.getD i false)=bs.any id:=by
 rw[Bool.eq_iff_iff];simp only[List.any_eq_true,mem_range,id_eq]
 constructor
 ·rintro ⟨i,hi,e⟩
  exact ⟨bs[i],List.getElem_mem hi,by simpa[getD_eq_getElem?_getD,hi] using e⟩
 ·rintro ⟨b,hb,e⟩
  obtain ⟨i,hi,q⟩:=mem_iff_getElem.mp hb;exact ⟨i,hi,by simp[getD_eq_getElem?_getD,hi,q,e]⟩
def tP(bs:List Bool):(List.range bs.length).all (λi=>bs.getD i false)=bs.all id:=by
 rw[Bool.eq_iff_iff];simp only[List.all_eq_true,mem_range,id_eq]
 constructor
 ·intro h b hb
  obtain ⟨i,hi,q⟩:=mem_iff_getElem.mp hb;have:=h i hi
  simpa[getD_eq_getElem?_getD,hi,q] using this
 ·intro h i hi
  have:=h bs[i] (List.getElem_mem hi)
  simpa[getD_eq_getElem?_getD,hi] using this
def oG{A:Around}(h:A.handled=none):A.in1.handled=none:=h
def kZ{pins:List (Addr×Obj)}{σ:St}{H:Hp}{s:Shared}{p:Addr}{bs:List Bool}{E:Value->Shared->Prop}{R:Nat->(Nat->Bool)->Value->Shared->Prop}(hc:X.calm=true)(I:Inv X pins σ H s)(hq:SqL X.K H p (bs.map V.bl))
  (fin:∀(It:Addr) (fp wr:List Addr) (P:Nat->Value->Prop) (St:Nat->Heap->Prop) (s2:Shared),Walks X.prog X.w X.A.in1 It fp wr bs.length P St->St 0 s2.heap->TruthOf X.prog X.w X.A.in1 P (λi=>bs.getD i false)->
   (∀h' tk,(∀b o,b∉wr->s2.heap.get? b=some o->h'.get? b=some o)->Inv X pins σ H { s2 with heap:=h',toks:=tk })->R bs.length (λi=>bs.getD i false) (.ref It) s2):
  wpAny (model X.prog X.w) X.A.in1 (pyIter (.ref p)) (λit s2=>R bs.length (λi=>bs.getD i false) it s2) E s:=by
 obtain ⟨its,rv,pl,hz⟩:=I.list hq;refine wpAny_pyIter_list pl.isList ?_;have lp:p<s.heap.objs.size:=by obtain ⟨_,o,_⟩:=pl.isList;exact lt_size o
 have hlen:its.toArray.size=bs.length:=by rw[size_toArray,<- rv.length,length_map]
 have W:=Walks.list (prog:=X.prog) (w:=X.w) (A:=X.A.in1) (oG (I.ok.hd hc)) s.heap.objs.size p (Nat.ne_of_lt lp) its.toArray;rw[hlen] at W;refine fin _ _ _ _ _ _ W {{_,get?_push_size _ rfl,rfl,rfl},pl.isList.push _} (λi v s' Q' E' hP hQ=>?_) (λh' tk hk=>?_)
 ·obtain ⟨b,hb,rfl⟩:=vd (i:=i) (v:=v) rv (by simpa using hP)
  refine wpAny_truthy_bool ?_;have:bs.getD i false=b:=by rw[getD_eq_getElem?_getD,hb];rfl
  simpa only[this] using hQ
 ·refine I.kept (t':=tk) λb o e=>hk b o (λz=>?_) (get?_push_of_some _ e)
  have:b=s.heap.objs.size:=by simpa using z
  exact absurd (lt_size e) (by rw[this];exact lt_irrefl _)
def tQ(hc:X.calm=true):aV X (.builtin "any") (λxs H Q=>∃(p:Addr) (bs:List Bool),xs=[.ref p]/\SqL X.K H p (bs.map V.bl)/\Q (.bl (bs.any id)) H):=by
 intro pins s σ H xs us Q I r h;obtain ⟨p,bs,rfl,hq,q⟩:=h;obtain ⟨u,rfl,ru⟩:=eM r;cases ru;refine call_any_walk (kZ hc I hq (R:=λn tr it s2=>∃It fp wr n P St tr,it=.ref It/\Walks X.prog X.w X.A.in1 It fp wr n P St/\St 0 s2.heap/\TruthOf X.prog X.w X.A.in1 P tr /\
  ∀h' tk,(∀b o,b∉wr->s2.heap.get? b=some o->h'.get? b=some o)->EP X pins σ Q (.bool ((List.range n).any tr)) { s2 with heap:=h',toks:=tk }) ?_)
 intro It fp wr P St s2 W st tr k;refine {It,fp,wr,_,P,St,_,rfl,W,st,tr,λh' tk hk=>?_};rw[tO];exact {.bl (bs.any id),H,k h' tk hk,rfl,q}
def tR(hc:X.calm=true):aV X (.builtin "all") (λxs H Q=>∃(p:Addr) (bs:List Bool),xs=[.ref p]/\SqL X.K H p (bs.map V.bl)/\Q (.bl (bs.all id)) H):=by
 intro pins s σ H xs us Q I r h;obtain ⟨p,bs,rfl,hq,q⟩:=h;obtain ⟨u,rfl,ru⟩:=eM r;cases ru;refine call_all_walk (kZ hc I hq (R:=λn tr it s2=>∃It fp wr n P St tr,it=.ref It/\Walks X.prog X.w X.A.in1 It fp wr n P St/\St 0 s2.heap/\TruthOf X.prog X.w X.A.in1 P tr /\
  ∀h' tk,(∀b o,b∉wr->s2.heap.get? b=some o->h'.get? b=some o)->EP X pins σ Q (.bool ((List.range n).all tr)) { s2 with heap:=h',toks:=tk }) ?_)
 intro It fp wr P St s2 W st tr k;refine {It,fp,wr,_,P,St,_,rfl,W,st,tr,λh' tk hk=>?_};rw[tP];exact {.bl (bs.all id),H,k h' tk hk,rfl,q}
def tS(hc:X.calm=true):aV X (.builtin "sum") (λxs H Q=>∃(p:Addr) (ns:List Int),xs=[.ref p]/\SqL X.K H p (ns.map V.int)/\Q (.int ns.sum) H):=by
 intro pins s σ H xs us Q I r h;obtain ⟨p,ns,rfl,hq,q⟩:=h;obtain ⟨u,rfl,ru⟩:=eM r;cases ru;obtain ⟨its,rv,pl,_⟩:=I.list hq;have hi:=fm rv;obtain ⟨ys,hys⟩:=hi.allInts.items;refine sum_intListG (I.ok.hd hc) (xs:=ys) (by rw[<- hys];exact pl.isList) λh' tk t' hk=>?_;refine {.int ns.sum,H,I.kept (t':=tk) hk,?_,q};have e1:(numsOf its.toArray.toList).sum=ns.sum:=by rw[show its.toArray.toList=its from rfl,hi.numsOf]
 rw[hys,nums_intItems] at e1;rw[preSum_eq,take_of_length_le (by simp),<- e1];exact ⟨t',rfl⟩
def oH:aV X (.builtin "isinstance") (λxs H Q=>∃x c cv t b,xs=[x,c]/\av c cv/\(∀u,av c u->u=cv)/\fU X.K H x t/\kitOne X.K t cv=some b/\Q (.bl b) H):=by
 intro pins s σ H xs us Q I r h;obtain ⟨x,c,cv,t,b,rfl,rc,inj,ty,e,q⟩:=h;obtain ⟨u,w',rfl,ru,rw'⟩:=ow r;cases inj w' rw';exact tG I ru ty e λtk=>{.bl b,H,I.tok tk,rfl,q}
def cS:∀u,av (.ty n) u->u=.type n:=λ_ h=>h
def bp:∀u,av (.ref a) u->u=.ref a:=λ_ h=>h
inductive qp(K:PySem.W.Frag)(x y:V)(H:Hp)(Q:VK):Prop
 | mk (a:_) (b:_) (xs:_) (ys:_):x=.ref a->y=.ref b->SqT K H a xs->SqT K H b ys->xs.length+ys.length<=sizeLine->(xs=[]->Q (.ref b) H)->(xs≠[]->ys=[]->Q (.ref a) H)->(xs≠[]->ys≠[]->∀p,H p=none->Q (.ref p) (upd H p (.tup (xs++ys))))->qp K x y H Q
def ve:OpR X (binaryOp .Add) (qp X.K):=by
 intro pins s σ H x y v u Q I rx ry h;obtain ⟨a,b,xs,ys,rfl,rfl,ha,hb,hz,q0,q1,q2⟩:=h
 by_cases hx:xs=[]
 ·cases rx
  cases ry;obtain ⟨its,r1,p1,_⟩:=I.tuple ha;obtain ⟨its2,r2,p2,_⟩:=I.tuple hb;obtain ⟨m,F⟩:=I.fr;have hv:its=[]:=r1.nil_iff.mpr hx;refine add_tuples (news:=[]) F (λq hq=>by cases hq) p1 p2 (λ_=>{.ref b,H,I,rfl,q0 hx}) (λz=>absurd hv z) (λz=>absurd hv z) (by rw[<- r1.length,<- r2.length];exact hz)
 ·exact x8 pins s σ H _ _ v u Q I rx ry {a,b,xs,ys,rfl,rfl,ha,hb,hx,hz,q1 hx,q2 hx}
inductive vf(K:PySem.W.Frag)(x:V)(vs:List V)(H:Hp)(Q:VK):Prop
 | mk (z:Str) (p:Addr) (ys:List Str):x=.str z->vs=[.ref p]->SqL K H p (ys.map V.str)->(ys.map (·.length)).sum+ys.length*z.length<=16777216->Q (.str (Txt.join z ys)) H->vf K x vs H Q
def ld:∀{ys:List Str} {us:List Value},aq (ys.map V.str) us->StrsAre us ys
 | [],_,.nil=>.nil
 | _::_,_,.cons r t=>by
  obtain ⟨k,rfl⟩:=r;exact .cons _ _ (ld t)
def yh:MtM X "str.join" (vf X.K):=by
 intro pins s σ H x xs v us Q I rx r h;obtain ⟨z,p,ys,rfl,rfl,hq,hz,q⟩:=h;obtain ⟨t,rfl⟩:=rx;obtain ⟨u,rfl,ru⟩:=aq.one r;cases ru;obtain ⟨its,rv,pl,_⟩:=I.list hq;exact join_list pl.isList (ld rv) hz λt' k=>{.str (Txt.join z ys),H,I.tok k,⟨t',rfl⟩,q}
end
open PySem.W (Dat) in
mutual
inductive DV(K:PySem.W.Frag)(H:Hp):V->PySem.W.Dat->Prop
 | non:DV K H .non .none
 | int (i:Int):DV K H (.int i) (.int i)
 | str (x:Str):DV K H (.str x) (.str x)
 | lst {a:Addr} {xs:List V} {ds:List PySem.W.Dat}:SqL K H a xs->DVs K H xs ds->DV K H (.ref a) (.list ds)
 | tup {a:Addr} {xs:List V} {ds:List PySem.W.Dat}:SqT K H a xs->DVs K H xs ds->DV K H (.ref a) (.tuple ds)
inductive DVs(K:PySem.W.Frag)(H:Hp):List V->List PySem.W.Dat->Prop
 | nil:DVs K H [] []
 | cons {x:V} {d:PySem.W.Dat} {xs:List V} {ds:List PySem.W.Dat}:DV K H x d->DVs K H xs ds->DVs K H (x::xs) (d::ds)
end
section
variable {X:Cx} {pins:List (Addr×Obj)} {σ:St} {H:Hp} {s:Shared}
mutual
def DV.reads(I:Inv X pins σ H s):∀{x:V} {d:PySem.W.Dat} {u:Value},DV X.K H x d->av x u->∃as,Reads s.heap u (kqdP d) as
 | _,_,_,.non,r=>by cases r;exact {_,Reads.none}
 | _,_,_,.int i,r=>by obtain ⟨t,rfl⟩:=r;exact {_,Reads.int i t}
 | _,_,_,.str x,r=>by obtain ⟨t,rfl⟩:=r;exact {_,Reads.str x t}
 | _,_,_,.lst hq hd,r=>by
  cases r;obtain ⟨its,rv,pl,_⟩:=I.list hq;obtain ⟨as,q⟩:=DVs.reads I hd rv;obtain ⟨o,ho,hc,n,hd'⟩:=pl.isList;rw[kqdP];exact {_,reads_list_at ho hc hd' (by simpa using q)}
 | _,_,_,.tup hq hd,r=>by
  cases r;obtain ⟨its,rv,pl,_⟩:=I.tuple hq;obtain ⟨as,q⟩:=DVs.reads I hd rv;obtain ⟨o,ho,hc,n,hd'⟩:=pl;rw[kqdP];exact {_,reads_tuple_at ho hc hd' (by simpa using q)}
def DVs.reads(I:Inv X pins σ H s):∀{xs:List V} {ds:List PySem.W.Dat} {us:List Value},DVs X.K H xs ds->aq xs us->∃as,ReadsAll s.heap us (PySem.W.kqdPs ds) as
 | _,_,_,.nil,r=>by cases r;exact {_,ReadsAll.nil}
 | _,_,_,.cons hd t,r=>by
  cases r with
  | cons r1 r2=>
   obtain ⟨as,q⟩:=DV.reads I hd r1;obtain ⟨bs,p⟩:=DVs.reads I t r2;rw[PySem.W.kqdPs];exact {_,ReadsAll.cons q p}
end
open Classical in
inductive AT(K:PySem.W.Frag)(x y:V)(H:Hp)(Q:VK):Prop
 | mk (d:_) (e:_):DV K H x d->DV K H y e->kqdOk 9 d=true->kqdOk 9 e=true->Q (.bl (decide (d=e))) H->AT K x y H Q
open Classical in
inductive AU(K:PySem.W.Frag)(x y:V)(H:Hp)(Q:VK):Prop
 | mk (d:_) (e:_):DV K H x d->DV K H y e->kqdOk 9 d=true->kqdOk 9 e=true->Q (.bl (!decide (d=e))) H->AU K x y H Q
open Classical in
def rQ(h1:kqdOk 9 d=true)(h2:kqdOk 9 e=true):PyData.eqv (kqdP d) (kqdP e)=decide (d=e):=by
 have q:=PySem.W.kqd_eqv 9 d e 9 h1 h2
 by_cases hq:d=e
 ·rw[decide_eq_true hq];exact q.mpr hq
 ·rw[decide_eq_false hq];exact Bool.eq_false_iff.mpr λz=>hq (q.mp z)
def gM(h:kqdOk 9 d=true):SeqAt.shaped (kqdP d)=true:=by
 have l:=PySem.W.kqd_lay 9 d h;unfold SeqAt.shaped;rw[l.1,Bool.true_and];exact decide_eq_true (Nat.le_trans l.2 (by decide))
def AV(hu:X.A.units+64<cLine):OpR X (compareOp .Eq) (AT X.K):=by
 intro pins s σ H x y v u Q I rx ry h;obtain ⟨d,e,hd,he,k1,k2,q⟩:=h;obtain ⟨as,ra⟩:=hd.reads I rx;obtain ⟨bs,rb⟩:=he.reads I ry;refine eq_dataH ra rb (gM k1) (gM k2) hu ?_;rw[rQ k1 k2];exact {.bl _,H,I,rfl,q}
def AW(hu:X.A.units+64<cLine):OpR X (compareOp .NotEq) (AU X.K):=by
 intro pins s σ H x y v u Q I rx ry h;obtain ⟨d,e,hd,he,k1,k2,q⟩:=h;obtain ⟨as,ra⟩:=hd.reads I rx;obtain ⟨bs,rb⟩:=he.reads I ry;refine ne_dataH ra rb (gM k1) (gM k2) hu ?_;rw[rQ k1 k2];exact {.bl _,H,I,rfl,q}
end
end L2
namespace L2
open PySem PySem.Spec PyProof.Rows
section
variable {X:Cx}
def zE(K:PySem.W.Frag):R2:=λx y H Q=>rI0 (λi j=>.int (i+j)) x y H Q\/AN x y H Q\/qp K x y H Q\/(∃i j,x=.str i/\y=.str j/\i.length+j.length<=sizeLine/\Q (.str (i++j)) H)
def yi:OpR X (binaryOp .Add) (zE X.K):=OpR.or Ao (OpR.or AO (OpR.or ve p6))
def B0:R2:=λx y H Q=>rI w8 (λi j=>.int (i*j)) x y H Q\/AQ x y H Q
def rR:OpR X (binaryOp .Mult) B0:=OpR.or Aq AR
def B1(K:PySem.W.Frag):R2:=λx y H Q=>rEq x y H Q\/AT K x y H Q
def AX(hu:X.A.units+64<cLine):OpR X (compareOp .Eq) (B1 X.K):=OpR.or BL (AV hu)
def B3(K:PySem.W.Frag):R2:=λx y H Q=>rNe x y H Q\/AU K x y H Q
def AY(hu:X.A.units+64<cLine):OpR X (compareOp .NotEq) (B3 X.K):=OpR.or BM (AW hu)
def zF(K:PySem.W.Frag):R2:=λx y H Q=>yb K x y H Q\/AG K x y H Q
def B4:IxR X (zF X.K):=IxR.or rJ AH
def B5:V->List V->Hp->VK->Prop:=λx vs H Q=>AL x vs H Q\/qk x vs H Q
def rS:MtR X "list.pop" B5:=MtR.or AM va
def av.bool_iff(r:av x v):(v==Value.bool b)=decide (x=.bl b):=by
 cases x with
 | bl c=>cases (show v=Value.bool c from r);cases b<;>cases c<;>rfl
 | non=>cases r;rfl
 | int _=>obtain ⟨t,rfl⟩:=r;rfl
 | str _=>obtain ⟨t,rfl⟩:=r;rfl
 | byt _=>obtain ⟨t,rfl⟩:=r;rfl
 | flt _=>obtain ⟨t,rfl⟩:=r;rfl
 | ref _=>cases r;rfl
 | ty _=>cases r;rfl
def mJ(r:av x v):isSame v (.bool b)=pure (decide (x=.bl b)):=by
 rw[<- r.bool_iff (b:=b)];cases x with
 | bl c=>cases (show v=Value.bool c from r);rfl
 | non=>cases r;rfl
 | int _=>obtain ⟨t,rfl⟩:=r;rfl
 | str _=>obtain ⟨t,rfl⟩:=r;rfl
 | byt _=>obtain ⟨t,rfl⟩:=r;rfl
 | flt _=>obtain ⟨t,rfl⟩:=r;rfl
 | ref _=>cases r;rfl
 | ty _=>cases r;rfl
def vg:OpR X (compareOp .Is) (λx y H Q=>∃b,y=.bl b/\Q (.bl (decide (x=.bl b))) H):=by
 intro pins s σ H x y v u Q I rx ry h;obtain ⟨b,rfl,q⟩:=h;cases (show u=Value.bool b from ry);show wpAny _ _ (do return Value.bool (<- isSame v (.bool b))) _ _ _;rw[mJ rx];exact wpAny_pure {.bl _,H,I,rfl,q}
def rT:OpR X (compareOp .IsNot) (λx y H Q=>∃b,y=.bl b/\Q (.bl (!decide (x=.bl b))) H):=by
 intro pins s σ H x y v u Q I rx ry h;obtain ⟨b,rfl,q⟩:=h;cases (show u=Value.bool b from ry);show wpAny _ _ (do return Value.bool (!(<- isSame v (.bool b)))) _ _ _;rw[mJ rx];exact wpAny_pure {.bl _,H,I,rfl,q}
end
structure Ctr(P:Program)(w:World)(K:PySem.W.Frag)(mg:Str->Option Value)(base:Heap)(CX:CXT)(k:Nat)(x:Str)(ps:List Str)(sp:Sp):Prop where
 ex:∃f fd,b9 P w K mg base CX k f fd ps sp/\mg x=some (.ref f)/\keepIn K (.ref f)=true/\bF K fd ps []
structure df(P:Program)(w:World)(K:PySem.W.Frag)(mg:Str->Option Value)(base:Heap)(CX:CXT)(k:Nat)(C:Addr)(m:Str)(ps:List Str)(sp:Sp):Prop where
 cl:Cls K C
 ex:∃f fd,b9 P w K mg base CX k f fd ps sp/\uW K C m f/\bF K fd ps []
structure nE(P:Program)(w:World)(K:PySem.W.Frag)(mg:Str->Option Value)(base:Heap)(CX:CXT)(k:Nat)(x:Str)(C:Addr)(ps:List Str)(sp:Sp):Prop where
 at_:mg x=some (.ref C)
 ex:∃f fd,b9 P w K mg base CX k f fd ps sp/\Mk K C f/\bF K fd ps []
section
variable {X:Cx} {CX:CXT} {k:Nat} {C:Addr} {ps:List Str} {sp:Sp} {E:XK} {x m:Str} {p pos apos:Pos} {e o:Expr} {es:List Expr} {ta:TE} {t:TA}
def tU (c:Ctr X.prog X.w X.K X.mg X.base CX k x ps sp) (hr:bi k X.A) (hg:Gl X x) (ha:PA X (e::es) t) (hx:eB CX X E) (hdb:(x==("__debug__":Str))=false:=by decide)
  (he:starEach (e::es) X.env=(false,eval e X.env)::starEach es X.env:=by rfl) (hpl:(backTo pos (starEach es X.env)).any (·.1)=false:=by rfl):PE X (.Call (.Name x p) (e::es) [] pos) (uX sp [] E t):=by
 obtain ⟨f,fd,F,hm,hk,hb⟩:=c.ex;exact x3 F hr hg hm hk hb .nil hx ha hdb he hpl
def vh (c:Ctr X.prog X.w X.K X.mg X.base CX0 k x ps sp) (hr:bi k X.A) (hg:Gl X x) (ha:PA X (e::es) t) (hdb:(x==("__debug__":Str))=false:=by decide)
  (he:starEach (e::es) X.env=(false,eval e X.env)::starEach es X.env:=by rfl) (hpl:(backTo pos (starEach es X.env)).any (·.1)=false:=by rfl):PE X (.Call (.Name x p) (e::es) [] pos) (uX sp [] E0 t):=
 tU c hr hg ha rL hdb he hpl
def vi(he:PE X o ta)(c:df X.prog X.w X.K X.mg X.base CX0 k C m ps sp)(hr:bi k X.A)(ha:PA X (e::es) t)
  (hst:starEach (e::es) X.env=(false,eval e X.env)::starEach es X.env:=by rfl) (hpl:(backTo pos (starEach es X.env)).any (·.1)=false:=by rfl)
  (ht:eval (.Call (.Attribute o m apos) (e::es) [] pos) X.env=(do
   let ov <- eval o X.env
   standAt apos.atName
   let (f,first) <- holding [ov] (getMethod ov m pl)
   callWith pos f first (backTo pos (starEach (e::es) X.env)) (backToKw pos (keywordEach [] X.env))):=by rfl):
  PE X (.Call (.Attribute o m apos) (e::es) [] pos) (oy C m sp [] E0 ta t):=by
 obtain ⟨f,fd,F,hm,hb⟩:=c.ex;exact rD (pl:=pl) he c.cl hm F hr hb .nil rL ha hst hpl ht
def tV(he:PE X o ta)(c:df X.prog X.w X.K X.mg X.base CX0 k C m ps sp)(hr:bi k X.A)
  (ht:eval (.Call (.Attribute o m apos) [] [] pos) X.env=(do
   let ov <- eval o X.env
   standAt apos.atName
   let (f,first) <- holding [ov] (getMethod ov m pl)
   callWith pos f first (backTo pos (starEach [] X.env)) (backToKw pos (keywordEach [] X.env))):=by rfl):
  PE X (.Call (.Attribute o m apos) [] [] pos) (oy C m sp [] E0 ta tH):=by
 obtain ⟨f,fd,F,hm,hb⟩:=c.ex;exact uY (pl:=pl) he c.cl hm F hr hb .nil rL ht
def vj (c:nE X.prog X.w X.K X.mg X.base CX0 k x C ps sp) (hr:bi (k+1) X.A) (hg:Gl X x) (ha:PA X (e::es) t) (hdb:(x==("__debug__":Str))=false:=by decide)
  (he:starEach (e::es) X.env=(false,eval e X.env)::starEach es X.env:=by rfl) (hpl:(backTo pos (starEach es X.env)).any (·.1)=false:=by rfl):
  PE X (.Call (.Name x p) (e::es) [] pos) (zB C sp [] E0 t):=by
 obtain ⟨f,fd,F,hm,hb⟩:=c.ex;exact x4 hm F hr hg c.at_ hb .nil rL ha hdb he hpl
end
def lf (hg:Gl X x) (hm:X.mg x=none) (hv:bootBuiltins x=some (.type n)) (hn:x ≠ "__name__":=by decide) (hd:(x==("__debug__":Str))=false:=by decide):PE X (.Name x pos) (tC (.ty n)):=
 wW (v:=.ty n) hg hm hv rfl hn hd
def rV (hg:Gl X x) (hm:X.mg x=some (.ref C)) (hd:(x==("__debug__":Str))=false:=by decide):PE X (.Name x pos) (tC (.ref C)):=wV (v:=.ref C) hg hm rfl hd
def ai(h:H b=some u)(ha:H a=none):upd H a o b=some u:=by rw[ae (af h ha)];exact h
def ag.upd(h:H a=none):ag H (L2.upd H a o):=λb u e=>ai e h
section
variable {X:Cx} {K:PySem.W.Frag} {a b c e o l value:Expr} {es:List Expr} {ta tb te tl tv to:TE} {t:TA} {f name:Str} {pos pos' p apos cpos tpos:Pos} {T id:String} {r:V->List V->Hp->VK->Prop}
def gN(hK:X.K=K):OpR X (binaryOp .Add) (zE K):=by subst hK;exact yi
def vk(hK:X.K=K)(hu:X.A.units+64<cLine):OpR X (compareOp .Eq) (B1 K):=by subst hK;exact AX hu
def qr(hK:X.K=K)(hu:X.A.units+64<cLine):OpR X (compareOp .NotEq) (B3 K):=by subst hK;exact AY hu
def mK(hK:X.K=K):OpR X (compareOp .NotIn) (rIn K true):=by subst hK;exact nB
def AZ(hK:X.K=K):IxR X (zF K):=by subst hK;exact B4
def CY(hK:X.K=K):SlR X (AI K):=by subst hK;exact yc
def yj(hK:X.K=K)(he:PE X e ta)(hb:attributeBase e f X.env (eval e X.env)=eval e X.env):PE X (.Attribute e f pos) (BQ K ta f):=by subst hK;exact Ax he hb
def rW(hK:X.K=K)(ha:PE X o ta)(hv:PE X value tv)(hs:swapsWith value (some (.Attribute o f pos')) pos.line X.env=pure false):PS X (.Assign [.Attribute o f pos'] value pos) (BR K ta tv f):=by subst hK;exact Ay ha hv hs
def iz(hK:X.K=K)(ha:PE X o ta)(hv:PE X value tv)(hop:Aw X op rd):PS X (.AugAssign (.Attribute o f tpos) op value pos) (rB K ta tv rd f):=by subst hK;exact tF ha hv hop
def vm(hK:X.K=K)(hl:PE X l tl):PI X tg l (zw K tl):=by subst hK;exact w5 hl
def vn (hK:X.K=K) (hg:Gl X "enumerate") (hm:X.mg "enumerate"=none) (ha:PA X [l] t) (hs:starEach [l] X.env=[(false,eval l X.env)]:=by rfl):PI X (.Tuple es k tpos) (.Call (.Name "enumerate" p) [l] [] pos) (zD K t):=by subst hK;exact yg hg hm ha hs
def yk (hK:X.K=K) (hg:Gl X "zip") (hm:X.mg "zip"=none) (ha:PA X [l,m] t) (hs:starEach [l,m] X.env=[(false,eval l X.env),(false,eval m X.env)]:=by rfl) (hs2:starEach [m] X.env=[(false,eval m X.env)]:=by rfl):
  PI X (.Tuple es k tpos) (.Call (.Name "zip" p) [l,m] [] pos) (BZ K t):=by subst hK;exact AS hg hm ha hs hs2
def rX(hK:X.K=K)(hc:X.calm=true)(h:PGs X es ts)(hn:(assignEach es X.env).length=n:=by rfl)(hst:(assignEach es X.env).findIdx? (·.1)=none:=by rfl):PG X (.Tuple es k pos) (Ag K n ts):=by
 subst hK;exact Ah hc h hn hst
def yl (hK:X.K=K) (pa:PlainAttrs T) (slot:Slot T name id) (hty:typeOf (.builtin id)=pure (.type "method_descriptor")) (hm:MtR X id r) (ho:PE X o to)
  (hbase:attributeBase o name X.env (eval o X.env)=eval o X.env:=by rfl) (hline:(apos.endLine==cpos.line)=true:=by rfl):PE X (.Call (.Attribute o name apos) [] [] cpos) (BW K T r to):=by subst hK;exact AK pa slot hty hm ho hbase hline
inductive B6(K:PySem.W.Frag)(xs:List V)(H:Hp)(Q:VK):Prop
 | mk (x:_) (n:_):xs=[x]->BO K x H n->Q (.int n) H->B6 K xs H Q
def mL(hK:X.K=K):aV X (.builtin "len") (B6 K):=by
 subst hK;intro pins s σ H xs us Q I r h;obtain ⟨x,n,z1,z2,z3⟩:=h;exact uT pins s σ H xs us Q I r ⟨x,n,z1,z2,z3⟩
inductive vo(K:PySem.W.Frag)(xs:List V)(H:Hp)(Q:VK):Prop
 | mk (p:_) (ys:_):xs=[.ref p]->(SqL K H p ys\/SqT K H p ys)->(∀l,H l=none->Q (.ref l) (upd H l (.lst ys)))->vo K xs H Q
def qt(hK:X.K=K):aV X (.type "list") (vo K):=by
 subst hK;intro pins s σ H xs us Q I r h;obtain ⟨y0,y1,y2,y3,y4⟩:=h;exact iO pins s σ H xs us Q I r ⟨y0,y1,y2,y3,y4⟩
inductive zG(K:PySem.W.Frag)(xs:List V)(H:Hp)(Q:VK):Prop
 | mk (p:Addr) (bs:List Bool):xs=[.ref p]->SqL K H p (bs.map V.bl)->Q (.bl (bs.any _root_.id)) H->zG K xs H Q
def tW(hK:X.K=K)(hc:X.calm=true):aV X (.builtin "any") (zG K):=by
 subst hK;intro pins s σ H xs us Q I r h;obtain ⟨y0,y1,y2,y3,y4⟩:=h;exact (tQ hc) pins s σ H xs us Q I r ⟨y0,y1,y2,y3,y4⟩
inductive zH(K:PySem.W.Frag)(xs:List V)(H:Hp)(Q:VK):Prop
 | mk (p:Addr) (bs:List Bool):xs=[.ref p]->SqL K H p (bs.map V.bl)->Q (.bl (bs.all _root_.id)) H->zH K xs H Q
def tX(hK:X.K=K)(hc:X.calm=true):aV X (.builtin "all") (zH K):=by
 subst hK;intro pins s σ H xs us Q I r h;obtain ⟨y0,y1,y2,y3,y4⟩:=h;exact (tR hc) pins s σ H xs us Q I r ⟨y0,y1,y2,y3,y4⟩
inductive zI(K:PySem.W.Frag)(xs:List V)(H:Hp)(Q:VK):Prop
 | mk (p:Addr) (ns:List Int):xs=[.ref p]->SqL K H p (ns.map V.int)->Q (.int ns.sum) H->zI K xs H Q
def tZ(hK:X.K=K)(hc:X.calm=true):aV X (.builtin "sum") (zI K):=by
 subst hK;intro pins s σ H xs us Q I r h;obtain ⟨y0,y1,y2,y3,y4⟩:=h;exact (tS hc) pins s σ H xs us Q I r ⟨y0,y1,y2,y3,y4⟩
inductive iP(K:PySem.W.Frag)(xs:List V)(H:Hp)(Q:VK):Prop
 | mk (x:_) (c:_) (cv:_) (t:_) (b:_):xs=[x,c]->av c cv->(∀u,av c u->u=cv)->fU K H x t->kitOne K t cv=some b->Q (.bl b) H->iP K xs H Q
def jk(hK:X.K=K):aV X (.builtin "isinstance") (iP K):=by
 subst hK;intro pins s σ H xs us Q I r h;obtain ⟨y0,y1,y2,y3,y4,y5,y6,y7,y8,y9,y10⟩:=h;exact oH pins s σ H xs us Q I r ⟨y0,y1,y2,y3,y4,y5,y6,y7,y8,y9,y10⟩
def ym(hK:X.K=K)(ha:PE X a ta)(he:∀whole,isTrue a X.env whole=(do let v <- whole;standAt a.pos;holding [v] (truthy v))):PT X a (λσ H Q=>ta σ H λx H'=>iTr K x H' Q):=by subst hK;exact uS ha he
def vp(hK:X.K=K):MtR X "str.join" (vf K):=by subst hK;exact yh
end
section
variable {X:Cx} {K:PySem.W.Frag} {o e:Expr} {es:List Expr} {to:TE} {t:TA} {name:Str} {apos cpos:Pos} {T id:String} {r:V->List V->Hp->VK->Prop}
def lg (hK:X.K=K) (pa:PlainAttrs T) (slot:Slot T name id) (hty:typeOf (.builtin id)=pure (.type "method_descriptor")) (hm:MtR X id r) (ho:PE X o to) (ha:PA X (e::es) t)
  (hbase:attributeBase o name X.env (eval o X.env)=eval o X.env:=by rfl)
  (hfew:((backTo cpos (starEach (e::es) X.env)).all (λx=>!x.1)&&(backToKw cpos (keywordEach [] X.env)).all (λx=>x.1.isSome)
   && decide ((e::es).length+([]:List Keyword).length+(if ([]:List Keyword).isEmpty then 0 else 1)<30))=true:=by rfl)
  (hline:(apos.endLine==cpos.line)=true:=by rfl) (hs:starEach (e::es) X.env=(false,eval e X.env)::starEach es X.env:=by rfl) (hplain:(backTo cpos (starEach es X.env)).any (·.1)=false:=by rfl):
  PE X (.Call (.Attribute o name apos) (e::es) [] cpos) (tBM K T r to t):=by subst hK;exact BX pa slot hty hm ho ha hbase hfew hline hs hplain
end
def gO(xs:List V)(k:Nat):dv xs (some (k:Int)) none=xs.drop k:=by
 unfold dv;rw[HT.sIx_nat,HT.sIx_none]
 by_cases h:k<=xs.length
 ·rw[min_eq_left h,take_of_length_le (by simp)]
 ·rw[min_eq_right (),drop_of_length_le (Nat.le_refl _),drop_of_length_le (),List.take_nil]
def nF(xs:List V)(k:Nat):dv xs none (some (k:Int))=xs.take k:=by
 unfold dv;rw[HT.sIx_nat,HT.sIx_none];simp only[drop_zero,Nat.sub_zero]
 by_cases h:k<=xs.length
 ·rw[min_eq_left h]
 ·rw[min_eq_right (),take_of_length_le (Nat.le_refl _),take_of_length_le ()]
def adj(ns:List Int):List Bool:=(ns.zip (ns.drop 1)).map λp=>decide (p.1=p.2)
def rY(ns:List Int):(adj ns).length=min ns.length (ns.length-1):=by
 unfold adj;rw[length_map,length_zip,length_drop]
def vq(a b:Int)(r:List Int):adj (a::b::r)=decide (a=b)::adj (b::r):=by
 unfold adj;simp
def yn{ns:List Int}{i:Nat}{x y:Int}(hx:ns[i]?=some x)(hy:(ns.drop 1)[i]?=some y):(adj ns)[i]?=some (decide (x=y)):=by
 unfold adj;rw[getElem?_map,List.getElem?_zip_eq_some (z:=(x,y)) |>.mpr ⟨hx,hy⟩];rfl
def vt{ns:List Int}{i:Nat}{x y:Int}(hx:ns[i]?=some x)(hy:(ns.drop 1)[i]?=some y):(adj ns).take (i+1)=(adj ns).take i++[decide (x=y)]:=by
 rw[take_add_one,yn hx hy];rfl
def mM:∀{ns:List Int},ns.Pairwise (· <= ·)->((adj ns).any id=!decide ns.Nodup)
 | [],_=>by simp[adj]
 | [a],_=>by simp[adj]
 | a::b::r,h=>by
  rw[pairwise_cons] at h;have ih:=mM h.2;rw[vq,any_cons,ih];have hab:a<=b:=h.1 b mem_cons_self
  by_cases e:a=b
  ·subst e
   have:¬ (a::a::r).Nodup:=λz=>(nodup_cons.mp z).1 mem_cons_self;simp[this]
  ·have ne:a∉b::r:=λhm=>by
    rcases mem_cons.mp hm with z | z
    ·exact e z
    ·have h1:=(pairwise_cons.mp h.2).1 a z
     exact e ()
   have:(a::b::r).Nodup↔(b::r).Nodup:=by rw[nodup_cons];exact {λz=>z.2,λz=>⟨ne,z⟩}
   by_cases hn:(b::r).Nodup
   ·simp[e,this.mpr hn,hn]
   ·simp[e,this,hn]
def aX{α β:Type}{f:α->β}{l:List α}{i:Nat}{y:β}(h:(l.map f)[i]?=some y):∃x,l[i]?=some x/\y=f x:=by
 rw[getElem?_map] at h;cases e:l[i]? with
 | none=>rw[e] at h;cases h
 | some x=>rw[e] at h;exact {x,rfl,(Option.some.inj h).symm}
def aJ{α:Type}{l:List α}{i:Nat}{x:α}(h:l[i]?=some x):l.take (i+1)=l.take i++[x]:=by
 rw[take_add_one,h];rfl
def yo(a b:Int):decide (V.int a=V.int b)=decide (a=b):=decide_eq_decide.mpr ⟨λh=>V.int.inj h,λh=>h▸rfl⟩
def A0(a b:Str):decide (V.str a=V.str b)=decide (a=b):=decide_eq_decide.mpr ⟨λh=>V.str.inj h,λh=>h▸rfl⟩
end L2
namespace Xc
open PySem
section
variable {M:Model} {A:Around} {E:Value->Shared->Prop} {s:Shared}
structure Exc(h:Heap)(e:Addr)(cls:Value)(od:Option Addr)(sl:Array (Option Value))(vs:Array Value):Prop where
 obj:h.get? e=some { cls:=cls,dict:=od,data:=.fields vs,slots:=sl }
 big:2<vs.size
structure Tb(h:Heap)(T:Addr)(fl:Value):Prop where
 ex:∃oT ts,h.get? T=some oT/\oT.data=.fields ts/\ts[3]?=some fl
def map_at{h:Heap}{a:Addr}{o:Obj}{vs:Array Value}{i:Nat}{x:Value}(ho:h.get? a=some o)(hd:o.data=.fields vs):
  (h.update a (Obj.mapFields (·.setIfInBounds i x))).get? a=some { o with data:=.fields (vs.setIfInBounds i x) }:=by
 rw[Heap.get?_update_self _ ho (Obj.isFreed_of_fields (Obj.data_mapFields hd _))];obtain ⟨c,d,dt,sl⟩:=o;subst hd;rfl
def mO{base:Heap}{env:Env}{outer:List Env}{L e:Addr}{cls:Value}{od:Option Addr}{sl:Array (Option Value)}{vs:Array Value}{head:Value}{had:Bool}{Q:Unit->Shared->Prop}
  (hfr:A.frames=some (env::outer)) (hl:s.heap.FunFrames base (env::outer)) (hf:env.frame=some L) (hx:Exc s.heap e cls od sl vs)
  (h:∀h' T',(∀b o,b∉(env::outer).filterMap (·.frame)->b≠e->s.heap.get? b=some o->h'.get? b=some o)->(∀b o,b≠e->s.heap.get? b=some o->∃k,h'.get? b=some { o with slots:=k })->
   s.heap.objs.size<=T'->Exc h' e cls od sl (vs.setIfInBounds 1 (.ref T'))->Tb h' T' (rawInt L)->Q Unit.unit { s with heap:=h' }):
  wpAny M A (do let a <- frameOf env;let pl <- entryPlaceOf L had;let b <- EntryCells.newEntry head a .none (rawInt L) .none pl;setField (.ref e) 1 b) Q E s:=by
 have he:=hx.obj;have nfr:e∉(env::outer).filterMap (·.frame):=λhm=>by
  obtain ⟨_,o,ho,hn⟩:=hl.mem hm;rw[he] at ho;cases ho;exact hn vs rfl
 refine wpAny_bind (wpAny_frameOf_fun hfr hl hf λg hs=>wpAny_bind (wpAny_entryPlaceOf λpl hpl=>?_));unfold EntryCells.newEntry newFields;refine wpAny_bind (wpAny_newObj_type ?_ (hpl.sizeOk5 _ _ _ _ _));have e1:g.get? e=some { cls:=cls,dict:=od,data:=.fields vs,slots:=sl }:=(hs.2.1 e nfr).trans he;generalize eN:({ cls:=.type "traceback",dict:=none,data:=.fields ([head,Value.ref L,.none,rawInt L,.none]++(if pl.isEmpty then List.replicate 6 Value.none else pl)).toArray }:Obj)=oN;have eD:oN.data=.fields ([head,Value.ref L,.none,rawInt L,.none]++(if pl.isEmpty then List.replicate 6 Value.none else pl)).toArray:=by rw[<- eN]
 have e2:=get?_push_of_some (h:=g) oN e1;have eT:g.objs.size≠e:=ne_of_gt (lt_size e1);refine wpAny_setField e2 rfl (Nat.lt_of_succ_lt hx.big) (h _ g.objs.size (λb o hb hbe q=>?_) (λb o hbe q=>?_) (Nat.le_of_eq hs.1.symm) ⟨map_at e2 rfl,by simpa using hx.big⟩ {{oN,_,?_,eD,?_}})
 ·exact (get?_update_other _ _ (Ne.symm hbe)).trans (get?_push_of_some _ ((hs.2.1 b hb).trans q))
 ·obtain ⟨k,z⟩:=hs.2.2 b o q
  exact {k,(get?_update_other _ _ (Ne.symm hbe)).trans (get?_push_of_some _ z)}
 ·exact (get?_update_other _ _ (Ne.symm eT)).trans (get?_push_size _ (by rw[<- eN];rfl))
 ·rcases hpl with rfl | ⟨_,_,_,_,_,_,_,rfl⟩<;>simp
def note_step{base:Heap}{env:Env}{outer:List Env}{L e:Addr}{cls:Value}{od:Option Addr}{sl:Array (Option Value)}{vs:Array Value}{Q:Unit->Shared->Prop}
  (hfr:A.frames=some (env::outer)) (hl:s.heap.FunFrames base (env::outer)) (hf:env.frame=some L) (hx:Exc s.heap e cls od sl vs)
  (ht:vs[1]?=some .none\/∃T,vs[1]?=some (.ref T)/\T≠e/\Tb s.heap T .none)
  (h:∀h' T',(∀b o,b∉(env::outer).filterMap (·.frame)->b≠e->vs[1]?≠some (.ref b)->s.heap.get? b=some o->h'.get? b=some o)->
   (∀b o,b≠e->vs[1]?≠some (.ref b)->s.heap.get? b=some o->∃k,h'.get? b=some { o with slots:=k })->(∀b o,vs[1]?=some (.ref b)->s.heap.get? b=some o->∃o',h'.get? b=some o')->
   s.heap.objs.size<=T'->Exc h' e cls od sl (vs.setIfInBounds 1 (.ref T'))->Tb h' T' (rawInt L)->Q Unit.unit { s with heap:=h' }):
  wpAny M A (noteFrame (.ref e) env) Q E s:=by
 unfold noteFrame;simp only[hf];rcases ht with h1 | ⟨T,h1,hTe,⟨oT,ts,hT,hdT,h3⟩⟩
 ·refine wpAny_bind (wpAny_field hx.obj rfl h1 ?_)
  rw[if_neg (by decide)];exact mO hfr hl hf hx λh' T' k1 k2 k3 k4 k5=>h h' T' (λb o b1 b2 _=>k1 b o b1 b2) (λb o b2 _=>k2 b o b2) (λb o z=>by rw[h1] at z;cases z) k3 k4 k5
 ·refine wpAny_bind (wpAny_field hx.obj rfl h1 ?_)
  rw[if_pos (show (Value.ref T != Value.none)=true from by simp)];refine wpAny_bind (wpAny_field hT hdT h3 ?_);rw[if_neg (show ¬ ((Value.none==rawInt L)=true) from by simp[rawInt])];refine wpAny_bind (wpAny_setField hT hdT (Array.getElem?_eq_some_iff.mp h3).1 ?_);have oth:∀b,b≠T->(s.heap.update T (Obj.mapFields (·.setIfInBounds 3 Value.none))).get? b=s.heap.get? b:=λb hb=>get?_update_other _ _ (Ne.symm hb);have hTn:=map_at (i:=3) (x:=Value.none) hT hdT;refine mO (base:=base) (had:=true) hfr (hl.of_keeps λb o hb hn=>?_) hf {(oth e (Ne.symm hTe)).trans hx.obj,hx.big} λh' T' k1 k2 k3 k4 k5=>h h' T' (λb o b1 b2 b3 q=>?_) (λb o b2 b3 q=>?_) (λb o b3 q=>?_) (by simpa using k3) k4 k5
  ·have bT:b≠T:=λz=>by
    rw[z,hT] at hb;cases hb;exact hn ts hdT
   exact {o,(oth b bT).trans hb,rfl}
  ·have bT:b≠T:=λz=>b3 (by rw[z];exact h1)
   exact k1 b o b1 b2 ((oth b bT).trans q)
  ·have bT:b≠T:=λz=>b3 (by rw[z];exact h1)
   exact k2 b o b2 ((oth b bT).trans q)
  ·have bT:b=T:=by
    rw[h1] at b3;cases b3;rfl
   subst bT;obtain ⟨k,z⟩:=k2 b _ hTe hTn;exact {_,z}
def land{e T:Addr}{cls:Value}{od:Option Addr}{sl:Array (Option Value)}{vs:Array Value}{fl:Value}{Q:Unit->Shared->Prop}(hx:Exc s.heap e cls od sl vs)(h1:vs[1]?=some (.ref T))(hTe:T≠e)(ht:Tb s.heap T fl)
  (h:∀h',(∀b o,b≠T->s.heap.get? b=some o->h'.get? b=some o)->Tb h' T .none->Q Unit.unit { s with heap:=h' }):wpAny M A (setFlight (.ref e) none) Q E s:=by
 obtain ⟨oT,ts,hT,hdT,h3⟩:=ht.ex;have hz:3<ts.size:=(Array.getElem?_eq_some_iff.mp h3).1;unfold setFlight;refine wpAny_bind (wpAny_field hx.obj rfl h1 ?_);rw[if_pos (show (Value.ref T != Value.none)=true from by simp)];refine wpAny_setField hT hdT hz (h _ (λb o hb q=>(get?_update_other _ _ (Ne.symm hb)).trans q) {{_,_,map_at hT hdT,rfl,?_}});simp[hz]
end
section
variable {prog:Program} {w:World} {A:Around} {E:Value->Shared->Prop} {h:Heap} {g:Array GenState} {d:Drawn} {t:Nat} {os:OsState}
variable {nm q:Str} {C N:Addr} {bs bm bmB:List Value} {hdct:Bool} {sn:List Str} {sub:List Value} {ab:Bool} {col:Option Bool} {dd:Option Addr} {k0 k1 k2 k3 k5:Option Value} {B newId initId:String}
def t8(F:ExcBaseFacts B newId initId bmB)(T:OwnTail h bmB bm){rest:List Value}
  (hC:h.get? C=some (excClassObj nm q C N bs bm hdct sn sub ab col dd k0 k1 k2 k3 k5 newId)) (hn:h.Ns N mN) (hi:mN "__init__"=some (.ref fI)) (hfI:h.get? fI=some oI) (hfc:oI.cls=.type "function")
  (hq:∀h' e,Heap.MadeExcOf h h' e (.ref C) rest->h.objs.size<=e->
   wpAny (model prog w) A (call (.ref fI) (.ref e::rest)) (λr s'=>r=.none/\Q (.done (.ret (.ref e))) s') E ⟨h',g,d,t,os⟩) (hrest:rest.length<=sizeLine):
  wpAny (model prog w) A (Builtin.«type.__call__» ⟨.ref C::rest,[]⟩) Q E ⟨h,g,d,t,os⟩:=by
 repeat (first | with_reducible refine wpAny_loadPart_at hC ?_ | with_reducible refine wpAny_madeBy_exc hC ?_ | wp_step)
 refine codeAny_call_builtin_code (Code.quiet_builtin _ F.quiet) (wpAny_check_new_subT F T hC (codeAny_exc_new_subT F T hC ?_ hrest));show wpAny _ _ _ _ _ _;generalize eh1:h.push { cls:=.type "tuple",data:=.seq rest.toArray }=h1;generalize eo:({ cls:=.ref C,data:=.fields #[.ref h.objs.size,.none,.none,.none,.bool false,.none] }:Obj)=ox;have z1:h1.objs.size=h.objs.size+1:=by rw[<- eh1,Heap.size_push]
 have up:∀b o,h.get? b=some o->(h1.push ox).get? b=some o:=λb o e=>get?_push_of_some _ (by rw[<- eh1];exact get?_push_of_some _ e);have hget:(h1.push ox).get? (h.objs.size+1)=some ox:=by rw[<- z1];exact get?_push_size _ (by rw[<- eo];rfl)
 have hoc:ox.cls=.ref C:=by rw[<- eo]
 have hcC:(Value.ref C::bm).contains (.ref C)=true:=by simp
 have hC1:=up _ _ hC;have hn1:(h1.push ox).Ns N mN:=let ⟨o,es,ep,e,r⟩:=hn;⟨o,es,ep,up _ _ e,r⟩;unfold isInstance
 repeat (first | (with_reducible refine wpAny_loadPart_at hget ?_;rw[hoc]) | (with_reducible refine wpAny_isSubtype_exc hC1 ?_;rw[hcC]) | wp_step)
 show wpAny _ _ (typeLookup (.ref C) _) _ _ _;refine wpAny_typeLookup_tail hC1 hn1 (T.keeps up) F.mroIs F.init.lookup ?_;rw[hi];refine wpAny_holding (wpAny_bind ?_);unfold bindSpecial;refine wpAny_bind (wpAny_typeOf (T := "function") {_,up _ _ hfI,hfc} ?_);rw[if_pos (by decide)];refine wpAny_pure (wpAny_bind (wpAny_mono (hq _ (h.objs.size+1) ⟨up,get?_none_of_le (le_succ _),h.objs.size,by rw[hget,<- eo],get?_none_of_le (Nat.le_refl _),?_⟩ (le_succ _)) (λr s' hr=>?_) λ_ _ x=>x))
 ·rw[<- eh1]
  exact get?_push_of_some _ (get?_push_size _ rfl)
 ·obtain ⟨rfl,hQ⟩:=hr
  wp_walk
  exact hQ
def call_init(F:ExcBaseFacts B newId initId bmB)(T:OwnTail h bmB bm){rest:List Value}
  (hC:h.get? C=some (excClassObj nm q C N bs bm hdct sn sub ab col dd k0 k1 k2 k3 k5 newId)) (hn:h.Ns N mN) (hi:mN "__init__"=some (.ref fI)) (hfI:h.get? fI=some oI) (hfc:oI.cls=.type "function")
  (hq:∀h' e,Heap.MadeExcOf h h' e (.ref C) rest->h.objs.size<=e->
   wpAny (model prog w) (A.under (.builtin "type.__call__" ⟨.ref C::rest,[]⟩)) (call (.ref fI) (.ref e::rest)) (λr s'=>r=.none/\Q (.ref e) s') E ⟨h',g,d,t,os⟩) (hrest:rest.length<=sizeLine):
  wpAny (model prog w) A (call (.ref C) rest) Q E ⟨h,g,d,t,os⟩:=by
 have f1:=tc_lookup;have f2:=tc_bind (.ref C);have hT:(⟨h,g,d,t,os⟩:Shared).TypeIs (.ref C) "type":=⟨_,hC,rfl⟩;refine wpAny_call (codeAny_of_tree (?_:wpAny _ _ (callAny (.ref C) _) _ _ _))
 repeat (any_goals (first | assumption | with_reducible refine wpAny_loadPart_at hC ?_ | wp_step))
 refine {rfl,codeAny_call_builtin_at (Code.quiet_builtin _ (by decide +kernel)) entry_typeCall (wpAny_check_type_call_sub hC (t8 F T hC hn hi hfI hfc (λh' e hm hs=>?_) hrest))};exact hq h' e hm hs
end
section
variable {M:Model} {A:Around} {E:Value->Shared->Prop} {s:Shared} {env:Env}
variable {nm q:Str} {C N:Addr} {bs bm:List Value} {hdct:Bool} {sn:List Str} {sub:List Value} {ab:Bool} {col:Option Bool} {dd:Option Addr} {k0 k1 k2 k3 k5:Option Value} {newId:String}
def raise_made (hbase:bm.contains (.type "BaseException")=true) (hh:A.handled=none)
  (h:wpAny M A x (λv s1=>∃e od sl vs,v=.ref e/\s1.heap.get? C=some (excClassObj nm q C N bs bm hdct sn sub ab col dd k0 k1 k2 k3 k5 newId)/\Exc s1.heap e (.ref C) od sl vs/\vs[1]?=some .none/\E (.ref e) s1) E s):
  wpAny M A (raiseStmt env (some x) none) Q E s:=by
 have hcB:(Value.ref C::bm).contains (.type "BaseException")=true:=by rw[List.contains_cons,hbase,Bool.or_true]
 unfold raiseStmt;refine wpAny_bind (wpAny_mono h (λv s1 h1=>?_) λ_ _ x=>x);obtain ⟨e,od,sl,vs,rfl,hC,⟨he,hb⟩,hv,hE⟩:=h1;obtain ⟨hp,g,d,tk,os⟩:=s1
 repeat (first | with_reducible refine wpAny_field he rfl hv ?_ | with_reducible refine wpAny_loadPart_at he ?_ | with_reducible refine wpAny_loadPart_at hC ?_ | (with_reducible refine wpAny_isSubtype_exc hC ?_;rw[hcB]) | wp_step)
 exact wpAny_raiseNew_none hh hE
end
end Xc
namespace L2
open PySem PySem.Spec PyProof.Rows
def CXe(P:Program)(w:World):CXT:=λouter H s E e s'=>∃(ea T:Addr) (cls:Value) (od:Option Addr) (sl:Array (Option Value)) (vs:Array Value) (H':Hp),
 e=.ref ea/\s'.os=s.os/\AllBare s'.gens/\Un (frs outer) [] H H' s.heap s'.heap/\HOk P w H' s'.heap/\H' ea=none/\H' T=none/\s.heap.objs.size<=ea/\s.heap.objs.size<=T /\
 Xc.Exc s'.heap ea cls od sl vs/\vs[1]?=some (.ref T)/\T≠ea/\vs[2]?=some .none/\Xc.Tb s'.heap T .none/\E cls od H'
structure vv(X:Cx)(H:Hp)(s:Shared)(ea:Addr)(cls:Value)(od:Option Addr)(sl:Array (Option Value))(vs:Array Value):Prop where
 exc:Xc.Exc s.heap ea cls od sl vs
 h2:vs[2]?=some .none
 free:H ea=none
 new:X.s₀.heap.objs.size<=ea
 nofr:∀x c,X.env.cells.lookup x=some c->c≠ea
 tb:vs[1]?=some .none\/∃T,vs[1]?=some (.ref T)/\T≠ea/\Xc.Tb s.heap T .none/\H T=none/\X.s₀.heap.objs.size<=T
section
variable {P:Program} {w:World} {K:PySem.W.Frag} {mg:Str->Option Value} {base:Heap} {N:List Str} {qual:Str} {scope:Scope} {f:Addr} {cd:Value} {A:Around} {outer:List Env} {s:Shared} {H:Hp} {E:XK}
def oJ(ok:HOk P w H' h)(k:∀b o u,H' b=some u->h.get? b=some o->h'.get? b=some o):HOk P w H' h':=λb u e=>
 (ok b u e).stay (λc v hc q=>by
  rcases hc with rfl | hc
  ·exact k c v _ e q
  ·exact k c v _ hc q) (λ_ q=>q) (λ_ _ q=>q) λ_ _ _ q=>q
def rZ
  (I:Inv (jg (CXe P w) P w K mg base N qual scope f cd A outer s H E) pins σ H' s') (F:vv (jg (CXe P w) P w K mg base N qual scope f cd A outer s H E) H' s' ea cls od sl vs) (q:E cls od H'):
  (jg (CXe P w) P w K mg base N qual scope f cd A outer s H E).xe (.ref ea) s':=by
 have hst:s'.heap.FunFrames base (envOfC qual scope s.heap.objs.size f cd::outer):=I.stack;have hfr:(A.deeper (envOfC qual scope s.heap.objs.size f cd)).frames=some (envOfC qual scope s.heap.objs.size f cd::outer):=I.ok.frames;have sfree:∀b∈(envOfC qual scope s.heap.objs.size f cd::outer).filterMap (·.frame),H' b=none:=I.stkFree;have sub:∀b∈(envOfC qual scope s.heap.objs.size f cd::outer).filterMap (·.frame),b∈s.heap.objs.size::frs outer:=I.stkSub;have bs:=I.base;have new0:s.heap.get? ea=none:=get?_none_of_le F.new;show wpAny (model P w) (A.deeper (envOfC qual scope s.heap.objs.size f cd)) (leaving (envOfC qual scope s.heap.objs.size f cd) (.ref ea)) (λ_ s''=>CXe P w outer H s E (.ref ea) s'') (λe' s''=>CXe P w outer H s E e' s'') s'
 unfold leaving;refine wpAny_bind (Xc.note_step hfr hst rfl F.exc (F.tb.imp id λ⟨T,a,b,c,_⟩=>⟨T,a,b,c⟩) λh1 T1 k1 k2 k3 k4 k5 k6=>?_);have hv1:(vs.setIfInBounds 1 (.ref T1))[1]?=some (.ref T1):=by simp[Nat.lt_of_succ_lt F.exc.big]
 have hv2:(vs.setIfInBounds 1 (.ref T1))[2]?=some .none:=by rw[Array.getElem?_setIfInBounds_ne (by decide)];exact F.h2
 have hTe:T1≠ea:=ne_of_gt (Nat.lt_of_lt_of_le (lt_size F.exc.obj) k4);refine Xc.land k5 hv1 hTe k6 λh2 g1 g2=>?_;have ltT:∀b o,s'.heap.get? b=some o->b≠T1:=λb o e=>Nat.ne_of_lt (Nat.lt_of_lt_of_le (lt_size e) k4);have oldT:∀b,vs[1]?=some (.ref b)->H' b=none/\s.heap.get? b=none:=λb e=>by
  rcases F.tb with z | ⟨T,a,_,_,d,n⟩
  ·rw[z] at e;cases e
  ·rw[a] at e;cases e;exact {d,get?_none_of_le n}
 have kept:∀b o,s.heap.get? b=some o->s'.heap.get? b=some o->b∉frs outer->h2.get? b=some o:=λb o e0 e hb=>by
  refine g1 b o (ltT b o e) (k1 b o (λz=>?_) (λz=>?_) (λz=>?_) e)
  ·rcases mem_cons.mp (sub b z) with y | y
   ·rw[y] at e0
    exact absurd (lt_size e0) (lt_irrefl _)
   ·exact hb y
  ·rw[z,new0] at e0;cases e0
  ·rw[(oldT b z).2] at e0;cases e0
 have slots:∀b o,s.heap.get? b=some o->s'.heap.get? b=some o->∃k,h2.get? b=some { o with slots:=k }:=λb o e0 e=>by
  obtain ⟨k,z⟩:=k2 b o (λz=>by rw[z,new0] at e0;cases e0) (λz=>by rw[(oldT b z).2] at e0;cases e0) e;exact {k,g1 b _ (ltT b o e) z}
 have there:∀b o,s.heap.get? b=some o->∀o',s'.heap.get? b=some o'->∃o'',h2.get? b=some o'':=λb o e0 o' e=>by
  obtain ⟨k,z⟩:=k2 b o' (λz=>by rw[z,new0] at e0;cases e0) (λz=>by rw[(oldT b z).2] at e0;cases e0) e;exact {_,g1 b _ (ltT b o' e) z}
 refine ⟨ea,T1,cls,od,sl,_,H',rfl,I.os,I.bare,⟨λb o e n hb hx=>?_,λb o e n hb hx=>?_,λb o e n hx=>bs.free b o e n (by show b∉([]:List Addr);simp),λb o e hx=>?_,bs.tups,bs.frzs,bs.tbls⟩,?_,F.free,I.hok.fresh k4,F.new,?_,⟨g1 _ _ hTe.symm k5.obj,k5.big⟩,hv1,hTe,hv2,g2,q⟩
 ·exact kept b o e (bs.keep b o e n hb (by show b∉([]:List Addr);simp)) hb
 ·obtain ⟨k0,e0⟩:=bs.slot b o e n hb (by show b∉([]:List Addr);simp)
  obtain ⟨k,z⟩:=k2 b _ (λz=>by rw[z,new0] at e;cases e) (λz=>by rw[(oldT b z).2] at e;cases e) e0;exact {k,g1 b _ (ltT b _ e0) z}
 ·obtain ⟨o',e1⟩:=bs.there b o e (by show b∉([]:List Addr);simp)
  exact there b o e o' e1
 ·exact oJ I.hok λb o u hu e=>g1 b o (ltT b o e) (k1 b o (λz=>by rw[sfree b z] at hu;cases hu) (λz=>by rw[z,F.free] at hu;cases hu) (λz=>by rw[(oldT b z).1] at hu;cases hu) e)
 ·exact Nat.le_trans I.sz k4
def zJ(h:∀c d H,E' c d H->E c d H):eB (CXe P w) (jg (CXe P w) P w K mg base N qual scope f cd A outer s H E) E':=by
 intro pins σ H1 s1 e s' I hx;obtain ⟨ea,T,cls,od,sl,vs,H',rfl,ho,hb,hu,hok,n1,n2,m1,m2,ex,v1,ne,v2,tb,q⟩:=hx;have I':=I.call' (ch:=[]) ho hu hok hb (λ_ z=>nomatch z);refine rZ I' {ex,v2,n1,Nat.le_trans I.sz m1,λx c e z=>?_,.inr {T,v1,ne,tb,n2,Nat.le_trans I.sz m2}} (h _ _ _ q);obtain ⟨v,o,y,_⟩:=I.cell x c e;rw[z] at y;exact absurd (lt_size y) (Nat.not_lt.mpr m1)
end
def qu(X:Cx)(E:XK):Prop:=∀(pins:List (Addr×Obj)) (σ:St) (H:Hp) (s:Shared) (ea:Addr) (cls:Value) (od:Option Addr) (sl:Array (Option Value)) (vs:Array Value),Inv X pins σ H s->vv X H s ea cls od sl vs->E cls od H->X.xe (.ref ea) s
def r9{P:Program}{w:World}{K:PySem.W.Frag}{mg:Str->Option Value}{base:Heap}{N:List Str}{qual:Str}{scope:Scope}{f:Addr}{cd:Value}{A:Around}{outer:List Env}{s:Shared}{H:Hp}{E:XK}:
  qu (jg (CXe P w) P w K mg base N qual scope f cd A outer s H E) E:=λ_ _ _ _ _ _ _ _ _ I F q=>rZ I F q
def Fun.okE{P:Program}{w:World}{K:PySem.W.Frag}{mg:Str->Option Value}{base:Heap}{x qual:Str}{st:Stmt}{f:Addr}{fd:FuncData}{N ps:List Str}{k:Nat}{sp:Sp}(F:Fun K x qual st f fd)(S:ak N ps (ah st))(len:∀vs H Q E,sp vs H Q E->vs.length=ps.length)
  (hbody:∀(cdv:Value) (A:Around) (outer:List Env) (s:Shared) (H:Hp) (vs:List V) (Q:VK) (E:XK),bi k (A.deeper (envOfC qual (ah st) s.heap.objs.size f cdv))->sp vs H Q E->
   ∃t,PSs (jg (CXe P w) P w K mg base N qual (ah st) f cdv A outer s H E) (bW st) t/\t { nx:=λ_ H'=>Q .non H',rt:=Q } (start N vs) H):b9 P w K mg base (CXe P w) (k+1) f fd ps sp:=by
 obtain ⟨oc,od,kV,doc,pm,an,cdv,ct,osl,rfl,lk,hcd⟩:=F.ex;exact u4 lk hcd S len λA outer s H vs Q E hr hsp=>hbody cdv A outer s H vs Q E hr hsp
end L2
namespace Xc
open PySem PySem.W PySem.Calls PyProof.Rows Builtin Builtin.ObjectAttr
def overVE:List Value->Bool
 | .ref _::r=>overVE r
 | l=>l==[.type "ValueError",.type "Exception",.type "BaseException",.type "object"]
def lh{l:List Value}(h:overVE l=true)(h':∀a r,l≠.ref a::r):l=[.type "ValueError",.type "Exception",.type "BaseException",.type "object"]:=by
 unfold overVE at h
 split at h
 ·exact absurd rfl (h' _ _)
 ·exact beq_iff_eq.mp h
def t9(self:Value):∀{l:List Value},overVE l=true->refuseLoop self "__setattr__" l=pure Unit.unit
 | l,e=>by
  induction l with
  | nil=>cases lh e (by simp)
  | cons v r ih=>
   cases v with
   | ref c=>rw[refuseLoop_ref];exact ih (by rw[overVE] at e;exact e)
   | _=>rw[lh e (by simp)];exact PySem.F.store_ValueError.passes self
def A1 (n:String) (hn:([.type "ValueError",.type "Exception",.type "BaseException",.type "object"]:List Value).contains (.type n)=true):∀{l:List Value},overVE l=true->l.contains (.type n)=true
 | l,e=>by
  induction l with
  | nil=>cases lh e (by simp)
  | cons v r ih=>
   cases v with
   | ref c=>rw[List.contains_cons,ih (by rw[overVE] at e;exact e),Bool.or_true]
   | _=>rw[lh e (by simp)];exact hn
structure XC(K:Frag)(C:Addr):Prop where
 mro:(clsIn K C).any (λcd=>overVE cd.mro)=true
 hd:hasDictIn K C=true
 ga:findIn K (.ref C) "__getattribute__"=some (some (.builtin "BaseException.__getattribute__"))
 gh:findIn K (.ref C) "__getattr__"=some none
 sa:findIn K (.ref C) "__setattr__"=some (some (.builtin "object.__setattr__"))
 ca:findIn K (.ref C) "__class__"=some (some (.builtin "object.__class__"))
 cg:specialIn K (.builtin "object.__class__") "__get__"=some (some (.builtin "getset_descriptor.__get__"))
 ct:takesIn K (.builtin "object.__class__")=some true
section
variable {prog:Program} {w:World} {A:Around} {E:Value->Shared->Prop} {s:Shared} {K:Frag} {x C:Addr} {ox:Obj} {od:Option Obj} {name:Str}
def XC.has (c:XC K C) {n:String} (hn:([.type "ValueError",.type "Exception",.type "BaseException",.type "object"]:List Value).contains (.type n)=true):mroIn K C (.type n)=some true:=by
 obtain ⟨cd,hc,ho⟩:=any_some c.mro;have ne:cd.mro.isEmpty=false:=by cases q:cd.mro with | nil=>rw[q] at ho;cases lh ho (by simp) | cons _ _=>rfl
 unfold mroIn;rw[hc,Option.bind_some,if_neg (by rw[ne];decide),A1 n hn ho]
def set_first{v:Value}{Q:Unit->Shared->Prop}{sl:Array (Option Value)}{vs:Array Value}(c:XC K C)(X:K.In s.heap)(hx:s.heap.get? x=some ⟨.ref C,none,.fields vs,sl⟩)(ht:takerIn K C name=some none)
  (h:∀h' dx tk,h'.get? x=some ⟨.ref C,some dx,.fields vs,sl⟩->s.heap.objs.size<=dx->h'.Ns1 dx (λy=>if y=name then some v else none)->(∀b o,b≠x->s.heap.get? b=some o->h'.get? b=some o)->Q Unit.unit { s with heap:=h',toks:=tk }):
  wpAny (model prog w) A (setAttr (.ref x) name v) Q E s:=by
 have I:InstAt s.heap x ⟨.ref C,none,.fields vs,sl⟩ C none:=⟨hx,rfl,rfl,trivial⟩;obtain ⟨cd,hc,ho⟩:=any_some c.mro;have sub:Looks (model prog w) s.heap (isInstance (.ref x) (.type "object")) true:=I.type.andThen (looks_mroIn X (c.has (by decide +kernel)));refine set_plain X I c.sa ?_;have SF:=PySem.F.store_object;refine codeAny_call_builtin SF.slot.plain SF.entry (@check_slot (model prog w) _ _ { s with toks:=s.toks+1 } "object.__setattr__" "object" "__setattr__" (.ref x) [.str name s.toks,v] [] _ SF.kind SF.split sub (SF.args _ _ _) ?_);obtain ⟨attr,ha,hr⟩:=Option.bind_eq_some_iff.mp ht;have hm:Looks (model prog w) s.heap (mroOf (.ref C)) cd.mro:=(looks_clsIn X hc).andThen .now
 have L3:Looks (model prog w) s.heap (storeTaker? attr) none:=by
  cases attr with
  | none=>exact .now
  | some a=>
   obtain ⟨b,hb,hb2⟩:=map_eq_some_iff.mp hr;refine (looks_takesIn X hb).andThen ?_;cases b with
   | false=>exact .now
   | true=>cases hb2
 rw[osa_eq,refuse_eq];refine wpAny_bind (wpAny_bind (I.type.here (s:={ s with toks:=s.toks+1 }) (wpAny_bind (hm.here (s:={ s with toks:=s.toks+1 }) ?_))));rw[t9 _ ho];refine wpAny_pure (wpAny_bind (I.type.here (s:={ s with toks:=s.toks+1 }) (wpAny_bind ((looks_findIn X ha).here (s:={ s with toks:=s.toks+1 }) (wpAny_bind (L3.here (s:={ s with toks:=s.toks+1 }) ?_))))));obtain ⟨cd2,hc2,hd2⟩:=any_some c.hd;obtain ⟨hp,g,d,t,os⟩:=s;dsimp only at hx X I;refine wpAny_bind (wpAny_pure (wpAny_bind (wpAny_bind (wpAny_loadPart hx (wpAny_bind ((looks_clsIn X hc2).here (s:={hp,g,d,t+1,os}) ?_))))));rw[hd2]
 dsimp only;have hx₁:(hp.push { cls:=.type "dict",data:=.dict #[] }).get? x=some ⟨.ref C,none,.fields vs,sl⟩:=get?_push_of_some _ hx;have hxs:x≠hp.objs.size:=Nat.ne_of_lt (lt_size hx);refine wpAny_bind (wpAny_alloc' ?_);refine wpAny_bind (wpAny_update' hx₁ ?_);refine wpAny_pure ?_;generalize eh:((hp.push { cls:=.type "dict",data:=.dict #[] }).update x λo=>{ cls:=o.cls,dict:=some hp.objs.size,data:=o.data,slots:=o.slots })=h1;have gx:h1.get? x=some ⟨.ref C,some hp.objs.size,.fields vs,sl⟩:=by rw[<- eh];exact Heap.get?_update_self _ hx₁ rfl
 have gd:h1.get? hp.objs.size=some { cls:=.type "dict",data:=.dict #[] }:=by rw[<- eh];exact (Heap.get?_update_ne _ _ _ _ hxs.symm).trans (Heap.get?_push_at rfl rfl)
 have go:∀b o,b≠x->hp.get? b=some o->h1.get? b=some o:=λb o hb e=>by rw[<- eh];exact (Heap.get?_update_ne _ _ _ _ hb).trans (get?_push_of_some _ e)
 have hnd:h1.Ns hp.objs.size (λ_=>none):=⟨_,#[],_,gd,rfl,λe he=>absurd he (by simp),λ_=>rfl⟩;show wpAny _ _ (storeInDict hp.objs.size (.str name _) name v) _ _ _;unfold storeInDict newKeyGuard;refine wpAny_bind (wpAny_pure (wpAny_bind (wpAny_nsSet1 (Heap.Ns1.of_empty hnd) λh' hn' hs=>?_)));obtain ⟨oD,esD,epD,hoD,hdD,hcD⟩:=hn'.count (Within.cons name v Within.nil);refine wpAny_bind (wpAny_lookBehind hoD (by rw[hdD];exact pastItsLine_dict (Nat.le_trans hcD (by rw[length_cons,length_nil,sizeLine_eq];omega))) ?_);refine wpAny_pure ?_;exact h h' hp.objs.size _ ((hs.2 x hxs).trans gx) (Nat.le_refl _) hn' λb o hb e=>(hs.2 b (Nat.ne_of_lt (lt_size e))).trans (go b o hb e)
end
end Xc
namespace L2
open PySem PySem.Spec PyProof.Rows
abbrev veM:List Value:=[.type "ValueError",.type "Exception",.type "BaseException",.type "object"]
def XO(a C:Addr)(od:Option Addr):HO:=.ext λh=>∃sl t,h.get? a=some ⟨.ref C,od,.fields #[.ref t,.none,.none,.none,.bool false,.none],sl⟩
def XO.mk{P:Program}{w:World}(e:h.get? a=some ⟨.ref C,od,.fields #[.ref t,.none,.none,.none,.bool false,.none],sl⟩):
  aE P w H h a (XO a C od):=⟨⟨sl,t,e⟩,⟨_,e⟩,λh1 h2 ⟨sl',t',e'⟩ k=>⟨sl',t',k _ e'⟩⟩
def XO.get{P:Program}{w:World}(hok:HOk P w H h)(e:H a=some (XO a C od)):∃sl t,h.get? a=some ⟨.ref C,od,.fields #[.ref t,.none,.none,.none,.bool false,.none],sl⟩:=(hok a _ e).1
def del(H:Hp)(a:Addr):Hp:=λb=>if b=a then none else H b
def vw:del H a a=none:=if_pos rfl
def fW(h:b≠a):del H a b=H b:=if_neg h
def A2(h:H a=some o):upd H a o=H:=by
 funext b
 unfold upd
 split
 ·rename_i e;rw[e,h]
 ·rfl
def xIn(K:PySem.W.Frag)(C:Addr):Bool:=match K.lookup C with
 | some ⟨.type "type",_,.cls cd,sl⟩=>(match cd.mro,sl.toList with
  | .ref C'::bm,[_,_,_,_,some (.builtin n),_]=>C'==C&&n == "ValueError.__new__"&&!cd.hasDel&&PySem.W.tailIn K veM bm&&PySem.W.nsOkIn K cd.ns
  | _,_=>false)
 | _=>false
def B7{K:PySem.W.Frag}{h:Heap}{N:Addr}{mg:Str->Option Value}{n:Str}{v:Value}(X:K.In h)(G:h.Ns N mg)(e:nsIn K N n=some (some v)):mg n=some v:=by
 obtain ⟨o,es,ep,ho,hd,_,hf⟩:=G;unfold nsIn at e
 split at e
 ·rename_i c d es' n' sl q
  have:=X _ _ q;rw[ho] at this;cases this;cases hd
  split at e
  ·rename_i en he
   cases e;rw[<- hf];unfold nsFind findBy;rw[<- Array.find?_toList,he];rfl
  ·split at e<;>cases e
 ·cases e
structure XAt(K:PySem.W.Frag)(h:Heap)(C:Addr)(cd:ClassData):Prop where
 ex:∃(nm q:Str) (bs bm:List Value) (hdct:Bool) (sn:List Str) (sub:List Value) (ab:Bool) (col:Option Bool) (dd:Option Addr) (k0 k1 k2 k3 k5:Option Value),
  h.get? C=some (excClassObj nm q C cd.ns bs bm hdct sn sub ab col dd k0 k1 k2 k3 k5 "ValueError.__new__")/\OwnTail h veM bm/\∃mN,h.Ns cd.ns mN
def nG{K:PySem.W.Frag}{h:Heap}{C:Addr}(X:K.In h)(q:xIn K C=true):∃cd,PySem.W.clsIn K C=some cd/\XAt K h C cd:=by
 unfold xIn at q
 split at q
 ·rename_i dd cd sl ho
  split at q
  ·rename_i C' bm k0 k1 k2 k3 n k5 hm hs
   simp only[Bool.and_eq_true,beq_iff_eq,Bool.not_eq_true'] at q;obtain ⟨⟨⟨⟨rfl,rfl⟩,hdel⟩,ht⟩,hok⟩:=q;refine ⟨cd,by unfold PySem.W.clsIn;rw[ho],?_⟩;obtain ⟨nm,bs,mro,ns,qn,hd,sn,sub,ab,col,del⟩:=cd;dsimp only at hm hdel hok;subst hm hdel;have hsl:sl=#[k0,k1,k2,k3,some (.builtin "ValueError.__new__"),k5]:=by
    obtain ⟨l⟩:=sl;simp only at hs;rw[hs]
   subst hsl;exact {{nm,qn,bs,bm,hd,sn,sub,ab,col,dd,k0,k1,k2,k3,k5,X _ _ ho,PySem.W.tail_of_in X ht,_,.of_isNs (PySem.W.isNs_of_in X hok)}}
  ·cases q
 ·cases q
section
variable {X:Cx} {CX:CXT} {k:Nat} {f C:Addr} {fd:FuncData} {ps:List Str} {sp:Sp} {E:XK} {x:Str} {p pos apos rpos:Pos} {e o:Expr} {es:List Expr} {ta tv:TE} {t:TA}
def tFs(ta:TE):TE:=λσ H Q=>ta σ H λv H1=>∃i:Int,v=.int i/\i.natAbs.log2<1920/\∀y,Q (.str y) H1
def yp(he:PE X e ta)(ha:a.length<=1000)(hb:b.length<=1000):PE X (.JoinedStr [.Constant (.str a) j1 p1,.FormattedValue e (-1) none p2,.Constant (.str b) j2 p3] p4) (tFs ta):=by
 intro pins s σ H Q I h;refine JoinedStr_many (joinParts_cons (Calls.Constant_str {?_,joinParts_cons (FormattedValue_plain (thn (he pins _ σ H _ (I.tok _) h) λu s1 ⟨v,H1,I1,r,i,ev,hs,q⟩=>?_))}))
 ·rw[Str.length_append];show 0+_<=_;rw[sizeLine_eq];omega
 subst ev;obtain ⟨t,rfl⟩:=r;have hl:=int_text_len_1921 hs;refine formatField_int_small hs {?_,joinParts_consE (joinParts_cons (Calls.Constant_str {?_,joinParts_nilE (joinParts_nil {.str _,H1,(I1.tok _),{_,rfl},q _} ?_)}))}
 all_goals (simp only[Str.length_append];rw[sizeLine_eq];have:Str.empty.length=0:=rfl;omega)
def mP(K:PySem.W.Frag)(t:TA):TE:=λσ H Q=>t σ H λvs H1=>∃a C m,vs=[.ref a,m]/\xIn K C=true/\H1 a=some (XO a C none)/\Q .non H1
def oM {Y:Addr} {pl:Sem Bool} (hg:Gl X x) (hm:X.mg x=some (.ref Y)) (h1:PySem.W.specialIn X.K (.ref Y) "__getattribute__"=some (some (.builtin "type.__getattribute__"))) (h2:PySem.W.readsIn X.K Y (.type "type")=true)
  (h3:PySem.W.findCls X.K (.ref Y) (.type "type") "__init__"=some (.val (.builtin "ValueError.__init__"))) (ha:PA X (e::es) t) (hdb:(x==("__debug__":Str))=false:=by decide)
  (hst:starEach (e::es) X.env=(false,eval e X.env)::starEach es X.env:=by rfl) (hpl:(backTo pos (starEach es X.env)).any (·.1)=false:=by rfl)
  (ht:eval (.Call (.Attribute (.Name x p) "__init__" apos) (e::es) [] pos) X.env=(do
   let ov <- eval (.Name x p) X.env
   standAt apos.atName
   let (f,first) <- holding [ov] (getMethod ov "__init__" pl)
   callWith pos f first (backTo pos (starEach (e::es) X.env)) (backToKw pos (keywordEach [] X.env))):=by rfl):
  PE X (.Call (.Attribute (.Name x p) "__init__" apos) (e::es) [] pos) (mP X.K t):=by
 intro pins s σ H Q I h;refine methodCall_KW (pl:=pl) (fi I hg hm ?_ hdb) ht;refine PySem.W.method_cls I.kIn h1 (PySem.W.cls_value I.kIn h2 h3 (by decide +kernel) ?_);refine callWith_builtin1 (thn (ha pos pins _ σ H _ (I.tok _) h) λus s1 ⟨vs,H1,I1,r,a,C,m,ev,hC,hx,q⟩=>?_) hst hpl;subst ev;obtain ⟨cd,hcd,⟨nm,qn,bs,bm,hdct,sn,sub,ab,col,dd,k0,k1,k2,k3,k5,hCo,T,mN,hN⟩⟩:=nG I1.kIn hC;obtain ⟨sl,tt,he⟩:=XO.get I1.hok hx;obtain ⟨u1,u2,rfl,r1,r2⟩:∃u1 u2,us=[u1,u2]/\av (.ref a) u1/\av m u2:=by
  cases r with | cons r1 r2=>cases r2 with | cons r2 r3=>cases r3;exact {_,_,rfl,r1,r2}
 obtain rfl:u1=Value.ref a:=r1;have F:=PySem.F.excBase_ValueError;obtain ⟨hp,g,d,tk,os⟩:=s1;refine wpAny_call (codeAny_call_builtin F.init.plain F.initEntry (wpAny_check_init_subT F T hCo he rfl ?_))
 wp_walk
 dsimp only;have g1:=get?_push_of_some { cls:=.type "tuple",data:=.seq #[u2] } he;have g2:=Xc.map_at (i:=0) (x:=Value.ref hp.objs.size) g1 rfl;have I2:=I1.write (x:=a) (e:=a) (o:=XO a C none) (t':=tk) (h':=(hp.push { cls:=.type "tuple",data:=.seq #[u2] }).update a (Obj.mapFields (·.setIfInBounds 0 (Value.ref hp.objs.size)))) (by rw[hx];exact True.intro) (.inl rfl)
  (λb u hb e=>(get?_update_other _ _ (Ne.symm hb)).trans (get?_push_of_some _ e)) ⟨_,g2⟩ (XO.mk (sl:=sl) (t:=hp.objs.size) (g2.trans rfl))
 rw[A2 hx] at I2;exact {.non,H1,I2,rfl,q}
def vx(K:PySem.W.Frag)(ta tv:TE)(f:Str):TS:=λD σ H=>tv σ H λy H1=>ta σ H1 λx H2=>∃a C,x=.ref a/\H2 a=some (XO a C none)/\Xc.XC K C/\PySem.W.takerIn K C f=some none /\
 ∀d,H2 d=none->d≠a->D.nx σ (upd (upd H2 a (XO a C (some d))) d (.xd [(f,y)]))
def vy{f:Str}{value:Expr}{pos':Pos}(ha:PE X o ta)(hv:PE X value tv)(hs:swapsWith value (some (.Attribute o f pos')) pos.line X.env=pure false):PS X (.Assign [.Attribute o f pos'] value pos) (vx X.K ta tv f):=by
 intro pins s σ H D I h;refine plainObj_wpAny_Assign_Attribute (thn (hv pins s σ H _ I h) λu s1 ⟨y,H1,I1,ry,q⟩=>thn (ha pins s1 σ H1 _ I1 q) λov s2 ⟨x,H2,I2,rx,a,C,ex,ea,c,n,q2⟩=>?_) hs;subst ex;obtain rfl:ov=Value.ref a:=rx;obtain ⟨sl,tt,he⟩:=XO.get I2.hok ea;refine Xc.set_first c I2.kIn he n λh' d tk g1 g2 g3 g4=>?_;have hd:H2 d=none:=I2.hok.fresh g2;have hda:d≠a:=ne_of_gt (Nat.lt_of_lt_of_le (lt_size he) g2);have hgd:s2.heap.get? d=none:=get?_none_of_le g2;refine {σ,_,I2.un (h':=h') (t':=tk) {λb o e n hb _=>?_,λb o e n hb _=>?_,λb o e n _=>?_,λb o e _=>?_,λb xs e=>?_,λb o u e=>?_,λb pl y' e=>?_} (λb o e=>?_),q2 d hd hda}
 ·exact g4 b o (λz=>by rw[z,ea] at n;cases n) e
 ·exact ⟨o.slots,g4 b o (λz=>by rw[z,ea] at n;cases n) e⟩
 ·rw[ae (λz=>by rw[z,hgd] at e;cases e),ae (λz=>by rw[z,ea] at n;cases n)];exact n
 ·by_cases z:b=a
  ·rw[z];exact {_,g1}
  ·exact {o,g4 b o z e}
 ·rw[ae (af e hd),ae (λz=>by rw[z,ea] at e;cases e)];exact e
 ·rw[ae (af e hd),ae (λz=>by rw[z,ea] at e;cases e)];exact e
 ·rw[ae (af e hd),ae (λz=>by rw[z,ea] at e;cases e)];exact e
 ·by_cases z:b=d
  ·subst z
   rw[aa] at e;cases e;refine {_,g3,λg=>?_};show fS (([(f,y)]:List (Str×V)).lookup g) (if g=f then some u else none)
   by_cases e:g=f
   ·subst e;rw[if_pos rfl];simp only[List.lookup,beq_self_eq_true];exact ry
   ·rw[if_neg e];simp only[List.lookup,beq_eq_false_iff_ne.mpr e];trivial
  ·rw[ae z] at e
   by_cases z':b=a
   ·subst z'
    rw[aa] at e;cases e;exact XO.mk g1
   ·rw[ae z'] at e
    refine (I2.hok b o e).stay (λc v hc r=>g4 c v ?_ r) (λc r=>?_) (λc xs r=>?_) λc ob y r=>?_
    ·rcases hc with rfl | hc
     ·exact z'
     ·exact λw=>by rw[w,ea] at hc;cases hc
    ·rw[ae (af r hd),ae (λw=>by rw[w,ea] at r;cases r)];exact r
    ·rw[ae (af r hd),ae (λw=>by rw[w,ea] at r;cases r)];exact r
    ·rw[ae (af r hd),ae (λw=>by rw[w,ea] at r;cases r)];exact r
def Inv.untrack(I:Inv X pins σ H s)(e:H a=some (XO a C od)):Inv X pins σ (del H a) s:=by
 have no:∀b o,H b=some o->(∀z,o≠XO a C z)->b≠a:=λb o q n z=>by rw[z,e] at q;cases q;exact n _ rfl
 refine {I.ok,I.os,I.bare,{I.base.keep,I.base.slot,λb o q n hx=>?_,I.base.there,λb xs q=>?_,λb o u q=>?_,λb pl y q=>?_},I.loc,I.cell,?_,λy c q=>?_,λp hp=>?_,λb o q=>?_,I.len}
 ·unfold del;split
  ·rfl
  ·exact I.base.free b o q n hx
 ·have:=I.base.tups b xs q
  rw[fW (no _ _ this λz=>by intro w;cases w)];exact this
 ·have:=I.base.frzs b o u q
  rw[fW (no _ _ this λz=>by intro w;cases w)];exact this
 ·have this:=I.base.tbls b pl y q
  rw[fW (no _ _ this λz=>by intro w;cases w)];exact this
 ·unfold del;split
  ·rfl
  ·exact I.free
 ·unfold del;split
  ·rfl
  ·exact I.freeC y c q
 ·obtain ⟨p1,p2,p3⟩:=I.pin p hp
  exact ⟨p1,by unfold del;split;rfl;exact p2,p3⟩
 ·unfold del at q
  split at q
  ·cases q
  ·rename_i hb
   exact (I.hok b o q).stay (λc v _ r=>r) (λc r=>by rw[fW (no _ _ r λz=>by intro w;cases w)];exact r) (λc xs r=>by rw[fW (no _ _ r λz=>by intro w;cases w)];exact r) λc ob y r=>by rw[fW (no _ _ r λz=>by intro w;cases w)];exact r
structure XMk(K:PySem.W.Frag)(C f:Addr):Prop where
 x:xIn K C=true
 init:((PySem.W.clsIn K C).bind λcd=>nsIn K cd.ns "__init__")=some (some (.ref f))
 fn:isFn K (.ref f)=true
 kp:keepIn K (.ref C)=true
def qv(C:Addr)(sp:Sp)(E:XK)(t:TA):TS:=λ_ σ H=>t σ H λvs H1=>vs.length<=1000/\∀a,H1 a=none->sp (.ref a::vs) (upd H1 a (XO a C none)) (λv H2=>v=.non/\∃od,H2 a=some (XO a C od)/\E (.ref C) od (del H2 a)) E0
def vz(M:XMk X.K C f)(F:b9 X.prog X.w X.K X.mg X.base CX0 k f fd ps sp)(hr:bi (k+1) X.A)(hg:Gl X x)(hm:X.mg x=some (.ref C))(hb:bF X.K fd ps [])(hx:qu X E)
  (ha:PA X (e::es) t) (hdb:(x==("__debug__":Str))=false:=by decide) (he:starEach (e::es) X.env=(false,eval e X.env)::starEach es X.env:=by rfl) (hpl:(backTo pos (starEach es X.env)).any (·.1)=false:=by rfl):
  PS X (.Raise (some (.Call (.Name x p) (e::es) [] pos)) none rpos) (qv C sp E t):=by
 intro pins s σ H D I h;obtain ⟨cd,hcd,⟨nm,qn,bs,bm,hdct,sn,sub,ab,col,dd,k0,k1,k2,k3,k5,hCo,T,mN,hN⟩⟩:=nG I.kIn M.x;obtain ⟨cd',hcd',hi⟩:=Option.bind_eq_some_iff.mp M.init;rw[hcd] at hcd';cases hcd';have hb2:bm.contains (.type "BaseException")=true:=T.hasType (by decide +kernel);rw[arm_exec_Raise];refine wpAny_bind (wpAny_standAt ?_);show wpAny _ _ (raiseStmt X.env (some (do let v <- eval (.Call (.Name x p) (e::es) [] pos) X.env;standAt rpos;pure v)) none) _ _ _;refine Xc.raise_made (C:=C) (N:=cd.ns) (nm:=nm) (q:=qn) (bs:=bs) (bm:=bm) (hdct:=hdct) (sn:=sn) (sub:=sub) (ab:=ab) (col:=col) (dd:=dd) (k0:=k0) (k1:=k1) (k2:=k2) (k3:=k3) (k5:=k5) (newId := "ValueError.__new__") hb2 hr.hd ?_
 refine wpAny_bind (thn (Q:=λv s1=>∃e od sl vs,v=.ref e/\s1.heap.get? C=some (excClassObj nm qn C cd.ns bs bm hdct sn sub ab col dd k0 k1 k2 k3 k5 "ValueError.__new__")/\Xc.Exc s1.heap e (.ref C) od sl vs/\vs[1]?=some .none/\X.xe (.ref e) s1) ?_ λv s1 h1=>wpAny_bind (wpAny_standAt (wpAny_pure h1)));refine wpAny_Call_Name_kw (fi I hg hm ?_ hdb);refine callWith_K (h₀:=X.base) I.ok.mod.kin M.kp (thn (ha pos pins s σ H _ I h) λus s1 ⟨vs,H1,I1,r,hl,q⟩=>{I1.kIn,?_}) he hpl;have kC:∀{s':Shared} {H':Hp} {σ':St},Inv X pins σ' H' s'->s'.heap.get? C=some (excClassObj nm qn C cd.ns bs bm hdct sn sub ab col dd k0 k1 k2 k3 k5 "ValueError.__new__"):=λJ=>by
  have hK:∃o,X.K.lookup C=some o:=by
   unfold PySem.W.clsIn at hcd
   split at hcd
   ·rename_i z;exact {_,z}
   ·cases hcd
  obtain ⟨o,hK⟩:=hK;have e1:=I.kIn C o hK;rw[hCo] at e1;cases e1;exact J.kIn C _ hK
 obtain ⟨oI,hfI,hfc⟩:∃oI,X.K.lookup f=some oI/\oI.cls=.type "function":=by
  have z:PySem.W.typeIn X.K (.ref f)=some (.type "function"):=beq_iff_eq.mp M.fn;unfold PySem.W.typeIn at z
  first
   | (obtain ⟨o,a,b⟩:=map_eq_some_iff.mp z;exact ⟨o,a,b⟩)
   | (split at z<;>first | (cases z;done) | (rename_i o _ ;cases z;exact ⟨_,by assumption,rfl⟩))
 have T1:OwnTail s1.heap veM bm:=by
  obtain ⟨cd2,hcd2,⟨_,_,_,bm2,_,_,_,_,_,_,_,_,_,_,_,hCo2,T2,_⟩⟩:=nG I1.kIn M.x;rw[hcd] at hcd2;cases hcd2;rw[kC I1] at hCo2;have:bm=bm2:=by
   have z:=Option.some.inj hCo2;unfold excClassObj at z;injection z with _ _ z _;injection z with z;injection z with _ _ z;injection z
  rw[this];exact T2
 obtain ⟨mN1,hN1⟩:∃mN,s1.heap.Ns cd.ns mN:=by
  obtain ⟨cd2,hcd2,⟨_,_,_,bm2,_,_,_,_,_,_,_,_,_,_,_,hCo2,T2,z⟩⟩:=nG I1.kIn M.x;rw[hcd] at hcd2;cases hcd2;exact z
 have hi1:=B7 I1.kIn hN1 hi;have hC1:=kC I1;have hf1:=I1.kIn f _ hfI;obtain ⟨hp,g,d,tk,os⟩:=s1;refine Xc.call_init PySem.F.excBase_ValueError T1 hC1 hN1 hi1 hf1 hfc (λh' a hm hs=>?_) (by rw[nil_append,<- r.length,sizeLine_eq];omega);obtain ⟨tt,ht,_,_⟩:=hm.there;have I2:=I1.laid (a:=a) (o:=XO a C none) (h':=h') (t':=tk) hm.keeps hs (XO.mk ht);have hq:=q a (I1.hok.fresh hs);have r2:aq (V.ref a::vs) (Value.ref a::us):=.cons rfl r;have hl2:((Value.ref a::us)++[]).length=ps.length:=by
  have e:=r2.length;rw[F.len _ _ _ _ hq] at e;rw[append_nil];exact e.symm
 have bb:=hb _ (Value.ref a::us) I2.kIn hl2;rw[append_nil] at bb;refine wpAny_call (codeAny_mono (F.run _ X.stack _ _ {Value.ref a::us,[]} (Value.ref a::us) (V.ref a::vs) _ _ (hr.make C us []) (I2.env0.make C us []) bb r2 hq) λr s' hq'=>?_);cases r with
 | error e=>exact False.elim hq'
 | ok fl=>
  cases fl with
  | ret u=>
   obtain ⟨v,H',I3,rv,ev,od,hX,hE⟩:=I2.after hq';subst ev;obtain ⟨sl,t2,g2⟩:=XO.get I3.hok hX;refine {rv,a,od,sl,_,rfl,kC I3,⟨g2,by simp⟩,rfl,?_};refine hx pins σ (del H' a) s' a (.ref C) od sl _ (I3.untrack hX) {⟨g2,by simp⟩,rfl,vw,Nat.le_trans I1.sz hs,λy c e z=>?_,.inl rfl} hE;obtain ⟨v,o,y,_⟩:=I1.cell _ c e;rw[z] at y;exact absurd (lt_size y) (Nat.not_lt.mpr hs)
  | next=>exact False.elim hq'
  | brk=>exact False.elim hq'
  | cont=>exact False.elim hq'
end
end L2
namespace Xc
open PySem
section
variable {prog:Program} {w:World} {A:Around} {E:Value->Shared->Prop} {s:Shared}
end
end Xc
namespace L2
open PySem PySem.Spec PyProof.Rows
def XH(a C:Addr)(od:Option Addr):HO:=.ext λh=>∃sl vs,Xc.Exc h a (.ref C) od sl vs/\vs[2]?=some .none
def XH.mk{P:Program}{w:World}(e:Xc.Exc h a (.ref C) od sl vs)(h2:vs[2]?=some .none):
  aE P w H h a (XH a C od):=⟨⟨sl,vs,e,h2⟩,⟨_,e.obj⟩,λh1 h2 ⟨sl',vs',e',z⟩ k=>⟨sl',vs',⟨k _ e'.obj,e'.big⟩,z⟩⟩
section
variable {X:Cx} {K:PySem.W.Frag}
def aE.is{P:Program}{w:World}(x:aE P w H h a o):∃u,h.get? a=some u:=by
 cases o with
 | lst xs=>obtain ⟨_,_,_,_,e⟩:=x;exact {_,e}
 | tup xs=>obtain ⟨_,_,_,o,e,_⟩:=x;exact {_,e}
 | dK kvs=>obtain ⟨_,_,_,_,o,_,_,e,_⟩:=x;exact {_,e}
 | dT kvs=>obtain ⟨_,_,_,_,o,_,_,e,_⟩:=x;exact {_,e}
 | set S n=>obtain ⟨o,_,_,_,e,_⟩:=x;exact {_,e}
 | ins C dx fs=>obtain ⟨_,_,_,e,_⟩:=x;exact {_,e}
 | own y=>exact x
 | xd fs=>obtain ⟨_,⟨_,_,_,e,_⟩,_⟩:=x;exact {_,e}
 | rng lo hi=>obtain ⟨_,_,_,e⟩:=x;exact {_,e}
 | frz ob u=>obtain ⟨e,_⟩:=x;exact {_,e}
 | tbl pl q=>obtain ⟨_,e,_⟩:=x;exact {_,e}
 | met f y=>exact ⟨_,(show h.get? a=some _ from x)⟩
 | ext φ=>obtain ⟨_,e,_⟩:=x;exact e
end
end L2
namespace Xc
open PySem PySem.W PySem.Calls PyProof.Rows
section
variable {prog:Program} {w:World} {A:Around} {E:Value->Shared->Prop} {s:Shared} {K:Frag} {x C Y:Addr} {ox:Obj} {od:Option Obj}
def nH(X:K.In h)(c:XC K Y):Looks M h (isType (.ref Y)) true:=by
 obtain ⟨cdD,hcD,_⟩:=any_some c.hd;unfold clsIn at hcD
 split at hcD
 ·rename_i c' d' cd' sl' ho
  intro A' Q' E' s' k q;unfold isType loadHead;exact wpAny_bind (wpAny_loadPart (k _ _ (X _ _ ho)) (wpAny_pure q))
 ·cases hcD
def matches_own (X:K.In s.heap) (I:InstAt s.heap x ox C od) (hm:mroIn K C (.ref Y)=some b) (c:XC K Y) (t:typeIn K (.ref Y)=some (.type "type")) (h:Q b s):
  wpAny M A (excMatches (.ref x) (.ref Y)) Q E s:=by
 have L1:Looks M s.heap (isInstance (.ref Y) (.type "tuple")) false:=(looks_typeIn X t).andThen (Looks.of_pure tc_notTuple);have L2:Looks M s.heap (isExcClass (.ref Y)) true:=(nH X c).andThen (by rw[if_pos rfl];exact looks_mroIn X (c.has (by decide +kernel)));unfold excMatches;refine wpAny_bind (L1.here ?_);rw[if_neg Bool.false_ne_true];refine wpAny_bind (wpAny_pure ?_);simp only[forIn_cons,forIn_nil];refine wpAny_bind (wpAny_bind (wpAny_bind (L2.here ?_)));simp only[Bool.not_true,Bool.false_eq_true,if_false];refine wpAny_pure (wpAny_pure ?_);refine wpAny_bind (I.type.here (wpAny_bind (wpAny_bind (wpAny_bind ((looks_mroIn X hm).here ?_)))))
 cases b with
 | true=>rw[if_pos rfl];exact wpAny_pure (wpAny_pure (wpAny_pure h))
 | false=>rw[if_neg Bool.false_ne_true];exact wpAny_pure (wpAny_pure (wpAny_pure h))
end
end Xc
namespace L2
open PySem PySem.Spec PyProof.Rows
section
variable {X:Cx} {K:PySem.W.Frag} {pins:List (Addr×Obj)} {σ:St} {H:Hp} {s:Shared} {ea:Addr}
abbrev Cx.held(X:Cx)(ea:Addr):Cx:={ X with A:=X.A.mark (some (.ref ea)),calm:=false,xe:=λ_ _=>False }
def Cx.Ok.held(ok:X.Ok):(X.held ea).Ok:=
 ⟨ok.mod,ok.kind,ok.glob,ok.blt,ok.above,ok.inj,ok.has,ok.cab,(λz=>by cases z),ok.frames,ok.stk,ok.exf,ok.bs,ok.bsz,ok.noex,ok.exfs,ok.funs,ok.frf⟩
def Inv.held(I:Inv X pins σ H s):Inv (X.held ea) pins σ H s:=⟨I.ok.held,I.os,I.bare,I.base,I.loc,I.cell,I.free,I.freeC,I.pin,I.hok,I.len⟩
def Inv.unheld(ok:X.Ok)(I:Inv (X.held ea) pins σ H s):Inv X pins σ H s:=⟨ok,I.os,I.bare,I.base,I.loc,I.cell,I.free,I.freeC,I.pin,I.hok,I.len⟩
def Inv.track(I:Inv X pins σ H s)(ex:Xc.Exc s.heap ea (.ref C) od sl vs)(h2:vs[2]?=some .none)(n1:H ea=none)(n2:X.s₀.heap.objs.size<=ea)(n3:ea≠X.env.locals)
  (n4:∀x c,X.env.cells.lookup x=some c->c≠ea) (n5:∀p∈X.pn++pins,p.1≠ea):Inv X pins σ (upd H ea (XH ea C od)) s:=by
 refine ⟨I.ok,I.os,I.bare,{I.base.keep,I.base.slot,λb o q n hx=>?_,I.base.there,λb xs q=>ai (I.base.tups b xs q) n1,λb o u q=>ai (I.base.frzs b o u q) n1,λb pl y q=>ai (I.base.tbls b pl y q) n1},I.loc,I.cell,by rw[ae n3.symm];exact I.free,λy c q=>by rw[ae (n4 y c q)];exact I.freeC y c q,λp hp=>?_,λb o q=>?_,I.len⟩
 ·rw[ae (λz=>by rw[z,get?_none_of_le n2] at q;cases q)]
  exact I.base.free b o q n hx
 ·obtain ⟨p1,p2,p3⟩:=I.pin p hp
  exact ⟨p1,by rw[ae (n5 p hp)];exact p2,p3⟩
 ·by_cases hb:b=ea
  ·subst hb
   rw[aa] at q;cases q;exact XH.mk ex h2
  ·rw[ae hb] at q
   exact (I.hok b o q).stay (λc v _ r=>r) (λc r=>ai r n1) (λc xs r=>ai r n1) λc ob y r=>ai r n1
end
def oO(X:Cx)(pins:List (Addr×Obj))(σ:St)(E:XK):Value->Shared->Prop:=λe s'=>∃H1 s1,Inv X pins σ H1 s1/\CXe X.prog X.w X.stack H1 s1 E e s'
abbrev TX:=St->Hp->VK->XK->Prop
abbrev TSX:=cR->St->Hp->XK->Prop
def PX(X:Cx)(e:Expr)(t:TX):Prop:=
 ∀(pins:List (Addr×Obj)) (s:Shared) (σ:St) (H:Hp) (Q:VK) (E:XK),Inv X pins σ H s->t σ H Q E->wpAny (model X.prog X.w) X.A (eval e X.env) (EP X pins σ Q) (oO X pins σ E) s
def PSX(X:Cx)(st:Stmt)(t:TSX):Prop:=
 ∀(pins:List (Addr×Obj)) (s:Shared) (σ:St) (H:Hp) (D:cR) (E:XK),Inv X pins σ H s->t D σ H E->wpAny (model X.prog X.w) X.A (exec st X.env) (SP X pins D) (oO X pins σ E) s
section
variable {X:Cx} {K:PySem.W.Frag} {pins:List (Addr×Obj)} {σ:St} {H:Hp} {s:Shared} {k:Nat} {x:Str} {ps:List Str} {sp:Sp} {p pos:Pos} {e:Expr} {es:List Expr} {t:TA} {tx:TX}
def CZ(F:b9 X.prog X.w X.K X.mg X.base (CXe X.prog X.w) k f fd ps sp)(hr:bi k X.A)(hb:bF X.K fd ps [])(I:Inv X pins σ H s)(r:aq vs us)(h:sp vs H Q E):
  wpAny (model X.prog X.w) X.A (call (.ref f) us) (EP X pins σ Q) (oO X pins σ E) s:=by
 have hl:(us++[]).length=ps.length:=by rw[append_nil,<- r.length];exact F.len _ _ _ _ h
 have hb':=hb s us I.kIn hl;rw[append_nil] at hb';refine wpAny_call (codeAny_mono (F.run X.A X.stack s H {us,[]} us vs Q E hr I.env0 hb' r h) λr s' hq=>?_);cases r with
 | error e=>exact ⟨H,s,I,hq⟩
 | ok fl=>
  cases fl with
  | ret u=>exact I.after hq
  | next=>exact False.elim hq
  | brk=>exact False.elim hq
  | cont=>exact False.elim hq
def A3(t:TX):TSX:=λD σ H E=>t σ H (λ_ H'=>D.nx σ H') E
def vA(he:PX X e tx)(hs:swapsWith e none pos.line X.env=pure false:=by rfl):PSX X (.Expr e pos) (A3 tx):=by
 intro pins s σ H D E I h;exact wpAny_Expr_any (thn (he pins s σ H _ E I h) λv s1 ⟨x,H1,I1,r1,q1⟩=>⟨σ,H1,I1,q1⟩) I.quiet hs
def A4{R:Unit->Shared->Prop}(h:oO X pins σ E ev s')(hfr:A.frames=some X.stack)(hs:X.stack=X.env::X.outer)(hl:X.env.frame=some X.env.locals)
  (k:∀(ea T:Addr) (cls:Value) (od:Option Addr) (sl:Array (Option Value)) (vs:Array Value) (H':Hp) (s3:Shared),ev=.ref ea->Inv X pins σ H' s3->Xc.Exc s3.heap ea cls od sl vs->vs[1]?=some (.ref T)->T≠ea->vs[2]?=some .none->Xc.Tb s3.heap T .none->
   eA X pins H' ea->eA X pins H' T->X.s₀.heap.objs.size<=ea->E cls od H'->R Unit.unit s3):
  wpAny M A (noteFrame ev X.env) (λ_ s2=>wpAny M A (setFlight ev none) R XE s2) XE s':=by
 obtain ⟨H1,s1,I,ea,T,cls,od,sl,vs,H',rfl,ho,hb,hu,hok,n1,n2,m1,m2,ex,v1,ne,v2,tb,q⟩:=h;have I':=I.call' (ch:=[]) ho hu hok hb (λ_ z=>nomatch z);have hst:s'.heap.FunFrames X.base (X.env::X.outer):=by rw[<- hs];exact I'.stack
 have sfree:∀b∈(X.env::X.outer).filterMap (·.frame),H' b=none:=by
  have z:=I'.stkFree;rw[hs] at z;exact z
 have hfs:frs X.stack=(X.env::X.outer).filterMap (·.frame):=by rw[hs];rfl
 have new1:s1.heap.get? ea=none:=get?_none_of_le m1;have newT:∀b,vs[1]?=some (.ref b)->H' b=none/\s1.heap.get? b=none:=λb e=>by
  rw[v1] at e;cases e;exact {n2,get?_none_of_le m2}
 refine Xc.note_step (base:=X.base) (hfr.trans (by rw[hs])) hst hl ex (.inr ⟨T,v1,ne,tb⟩) λh1 T1 k1 k2 k3 k4 k5 k6=>?_;have hv1:(vs.setIfInBounds 1 (.ref T1))[1]?=some (.ref T1):=by simp[Nat.lt_of_succ_lt ex.big]
 have hv2:(vs.setIfInBounds 1 (.ref T1))[2]?=some .none:=by rw[Array.getElem?_setIfInBounds_ne (by decide)];exact v2
 have hTe:T1≠ea:=ne_of_gt (Nat.lt_of_lt_of_le (lt_size ex.obj) k4);refine Xc.land k5 hv1 hTe k6 λh2 g1 g2=>?_;have ltT:∀b o,s'.heap.get? b=some o->b≠T1:=λb o e=>Nat.ne_of_lt (Nat.lt_of_lt_of_le (lt_size e) k4);have lT1:s1.heap.objs.size<=T1:=by
  obtain ⟨oT,_,e,_⟩:=tb.ex;exact Nat.le_trans m2 (Nat.le_trans (Nat.le_of_lt (lt_size e)) k4)
 have slots:∀b o o',s1.heap.get? b=some o->s'.heap.get? b=some o'->∃k,h2.get? b=some { o' with slots:=k }:=λb o o' e0 e=>by
  obtain ⟨k,z⟩:=k2 b o' (λz=>by rw[z,new1] at e0;cases e0) (λz=>by rw[(newT b z).2] at e0;cases e0) e;exact {k,g1 b _ (ltT b o' e) z}
 have hok2:HOk X.prog X.w H' h2:=oJ hok λb o u hu e=>g1 b o (ltT b o e) (k1 b o (λz=>by rw[sfree b z] at hu;cases hu) (λz=>by rw[z,n1] at hu;cases hu) (λz=>by rw[(newT b z).1] at hu;cases hu) e);have u2:Un (frs X.stack) [] H1 H' s1.heap h2:=by
  refine {λb o e n hb hx=>?_,λb o e n hb hx=>?_,hu.free,λb o e hx=>?_,hu.tups,hu.frzs,hu.tbls}
  ·have e1:=hu.keep b o e n hb hx
   exact g1 b o (ltT b o e1) (k1 b o (by rw[<- hfs];exact hb) (λz=>by rw[z,new1] at e;cases e) (λz=>by rw[(newT b z).2] at e;cases e) e1)
  ·obtain ⟨k0,e0⟩:=hu.slot b o e n hb hx
   obtain ⟨k,z⟩:=slots b o _ e e0;exact ⟨k,z⟩
  ·obtain ⟨o',e1⟩:=hu.there b o e hx
   obtain ⟨k,z⟩:=slots b o o' e e1;exact {_,z}
 have I2:Inv X pins σ H' { s' with heap:=h2 }:=I.call' (s':={ s' with heap:=h2 }) (ch:=[]) ho u2 hok2 hb (λ_ z=>nomatch z);exact k ea T1 cls od sl _ H' _ rfl I2 {g1 _ _ hTe.symm k5.obj,k5.big} hv1 hTe hv2 g2 (I.fpOk m1 n1) (I.fpOk lT1 (I'.hok.fresh k4)) (Nat.le_trans I.sz m1) q
end
section
variable {X:Cx} {pos:Pos}
def B8(i j k:Nat)(ta:TA):TS:=λD σ H=>ta σ H λvs H1=>∃v w u,vs=[v,w,u]/\D.nx (((σ.set i (some v)).set j (some w)).set k (some u)) H1
def yq{kt k2 pt2}(hc:X.calm=true)(hN:X.N.Nodup)(hi:X.N[i]?=some x)(hj:X.N[j]?=some y)(hk:X.N[k]?=some z)(hij:i≠j)(hik:i≠k)(hjk:j≠k)
  (hx:X.env.scope.names.lookup x=some .local) (hy:X.env.scope.names.lookup y=some .local) (hz:X.env.scope.names.lookup z=some .local) (ha:PA X [a,b,c] ta)
  (hw:swappedStores [.Tuple [.Name x px,.Name y py,.Name z pz] kt pt] (.Tuple [a,b,c] k2 pt2) X.env=pure (some [x,y,z]))
  (hs:swapsWithSole [.Tuple [.Name x px,.Name y py,.Name z pz] kt pt] (.Tuple [a,b,c] k2 pt2) pos.line X.env=pure false:=by rfl):
  PS X (.Assign [.Tuple [.Name x px,.Name y py,.Name z pz] kt pt] (.Tuple [a,b,c] k2 pt2) pos) (B8 i j k ta):=by
 intro pins s σ H D I h;rw[exec_Assign_arm];refine wpAny_bind (wpAny_standAt ?_);rw[hs];refine wpAny_bind (wpAny_pure ?_);rw[if_neg (by decide)];refine wpAny_bind (Tuple_ (thn (ha _ pins s σ H _ I h) λus s1 ⟨vs,H1,I1,r1,q1⟩=>?_));obtain ⟨v,w,u,e1,q1⟩:=q1;subst e1;obtain ⟨u1,u2,u3,rfl,rv,rw',ru⟩:∃u1 u2 u3,us=[u1,u2,u3]/\av v u1/\av w u2/\av u u3:=by
  cases r1 with
  | cons p q=>
   cases q with
   | cons p' q'=>
    cases q' with
    | cons p'' q''=>
     cases q'';exact {_,_,_,rfl,p,p',p''}
 refine wpAny_newObj_type ?_ (by show 3<=sizeLine;decide);have I2:Inv X pins σ H1 { s1 with heap:=s1.heap.push { cls:=.type "tuple",data:=.seq [u1,u2,u3].toArray } }:=I1.kept (t':=s1.toks) λb o e=>get?_push_of_some _ e;rw[hw];refine wpAny_bind (wpAny_pure ?_);show wpAny (model X.prog X.w) X.A (do rule "assign.swapped-stores";let items <- unpackItems (.ref s1.heap.objs.size) 3 none;assignInOrder [λv=>bindName X.env z v,λv=>bindName X.env y v,λv=>bindName X.env x v] items.reverse;pure Flow.next) _ _ _;refine wpAny_bind (wpAny_rule (wpAny_bind (unpackItems_tuple (items:=#[u1,u2,u3]) (I.ok.hd hc) (IsTup.new s1.heap _) λh' hx'=>?_)))
 have I3:=I2.kept (h':=h') (t':=s1.toks) λb o e=>hx' b o (Nat.ne_of_lt (lt_size e)) e;show wpAny _ _ (assignInOrder [λv=>bindName X.env z v,λv=>bindName X.env y v,λv=>bindName X.env x v] [u3,u2,u1] >>= λ_=>pure Flow.next) _ _ _;refine wpAny_bind (assignInOrder_cons (wpAny_bindName (cM I3 hN hk (.inl hz) ru (λs2 I4=>?_) (.inr hz))));refine assignInOrder_cons (wpAny_bindName (cM I4 hN hj (.inl hy) rw' (λs3 I5=>?_) (.inr hy)));refine assignInOrder_cons (wpAny_bindName (cM I5 hN hi (.inl hx) rv (λs4 I6=>assignInOrder_nil (wpAny_pure ?_)) (.inr hx)));rw[set_comm _ _ (Ne.symm hjk),set_comm _ _ (Ne.symm hik),set_comm _ _ (Ne.symm hij)] at I6
 exact {_,H1,I6,q1}
end
structure FnT(K:PySem.W.Frag)(mg:Str->Option Value)(x:Str)(st:Stmt)(ps:List Str):Prop where
 ex:∃f fd,Fun K x x st f fd/\mg x=some (.ref f)/\bF K fd ps []
structure MtT(K:PySem.W.Frag)(C:Addr)(m qual:Str)(st:Stmt)(ps:List Str):Prop where
 ex:∃f fd,Fun K m qual st f fd/\uW K C m f/\bF K fd ps []
structure InT(K:PySem.W.Frag)(C:Addr)(qual:Str)(st:Stmt)(ps:List Str):Prop where
 ex:∃f fd,Fun K "__init__" qual st f fd/\Mk K C f/\bF K fd ps []
section
variable {P:Program} {w:World} {K:PySem.W.Frag} {mg:Str->Option Value} {base:Heap} {CX:CXT} {k:Nat} {x m qual:Str} {st:Stmt} {ps:List Str} {sp:Sp} {C:Addr}
def A5(F:FnT K mg x st ps)(h:∀f fd,Fun K x x st f fd->b9 P w K mg base CX k f fd ps sp):Ctr P w K mg base CX k x ps sp:=by
 obtain ⟨f,fd,F,e,b⟩:=F.ex;exact {{f,fd,h f fd F,e,F.kp,b}}
def kj(cl:Cls K C)(F:MtT K C m qual st ps)(h:∀f fd,Fun K m qual st f fd->b9 P w K mg base CX k f fd ps sp):df P w K mg base CX k C m ps sp:=by
 obtain ⟨f,fd,F,e,b⟩:=F.ex;exact {cl,{f,fd,h f fd F,e,b}}
def yr (mgC:mg x=some (.ref C)) (F:InT K C qual st ps) (h:∀f fd,Fun K "__init__" qual st f fd->b9 P w K mg base CX k f fd ps sp):nE P w K mg base CX k x C ps sp:=by
 obtain ⟨f,fd,F,e,b⟩:=F.ex;exact {mgC,{f,fd,h f fd F,e,b}}
end
def aW{K:PySem.W.Frag}{t:Value}:kitOne K t t=some true:=by
 unfold kitOne;rw[if_pos (beq_self_eq_true t)]
def fo{K:PySem.W.Frag}:kitOne K (.type "int") (.type "bool")=some false:=by first | rfl | kernel_rfl
def nI:bootBuiltins ("isinstance":Str)=some (.builtin "isinstance"):=by decide +kernel
def vB:bootBuiltins ("sorted":Str)=some (.builtin "sorted"):=by decide +kernel
def B9:bootBuiltins ("any":Str)=some (.builtin "any"):=by decide +kernel
def Ca:bootBuiltins ("all":Str)=some (.builtin "all"):=by decide +kernel
def Cb:bootBuiltins ("sum":Str)=some (.builtin "sum"):=by decide +kernel
def vC:bootBuiltins ("len":Str)=some (.builtin "len"):=by decide +kernel
def Cd:bootBuiltins ("min":Str)=some (.builtin "min"):=by decide +kernel
def Ce:bootBuiltins ("max":Str)=some (.builtin "max"):=by decide +kernel
def zK:bootBuiltins ("int":Str)=some (.type "int"):=by decide +kernel
def qw:bootBuiltins ("list":Str)=some (.type "list"):=by decide +kernel
def yt:bootBuiltins ("tuple":Str)=some (.type "tuple"):=by decide +kernel
def Cf:bootBuiltins ("str":Str)=some (.type "str"):=by decide +kernel
def A6:bootBuiltins ("bool":Str)=some (.type "bool"):=by decide +kernel
structure oP(K:PySem.W.Frag)(Y:Addr):Prop where
 h1:PySem.W.specialIn K (.ref Y) "__getattribute__"=some (some (.builtin "type.__getattribute__"))
 h2:PySem.W.readsIn K Y (.type "type")=true
 h3:PySem.W.findCls K (.ref Y) (.type "type") "__init__"=some (.val (.builtin "ValueError.__init__"))
structure XiT(K:PySem.W.Frag)(C:Addr)(qual:Str)(st:Stmt)(ps:List Str):Prop where
 ex:∃f fd,Fun K "__init__" qual st f fd/\XMk K C f/\bF K fd ps []
structure A7(P:Program)(w:World)(K:PySem.W.Frag)(mg:Str->Option Value)(base:Heap)(k:Nat)(x:Str)(C:Addr)(ps:List Str)(sp:Sp):Prop where
 at_:mg x=some (.ref C)
 ex:∃f fd,b9 P w K mg base CX0 k f fd ps sp/\XMk K C f/\bF K fd ps []
def yu{P:Program}{w:World}{K:PySem.W.Frag}{mg:Str->Option Value}{base:Heap}{k:Nat}{x qual:Str}{st:Stmt}{ps:List Str}{sp:Sp}{C:Addr}(mgC:mg x=some (.ref C))(F:XiT K C qual st ps)
  (h:∀f fd,Fun K "__init__" qual st f fd->b9 P w K mg base CX0 k f fd ps sp):A7 P w K mg base k x C ps sp:=by
 obtain ⟨f,fd,F,e,b⟩:=F.ex;exact {mgC,{f,fd,h f fd F,e,b}}
section
variable {X:Cx} {K:PySem.W.Frag} {k:Nat} {C:Addr} {ps:List Str} {sp:Sp} {E:XK} {x:Str} {p pos apos rpos:Pos} {e o:Expr} {es:List Expr} {ta tv:TE} {t:TA}
def mQ(c:A7 X.prog X.w X.K X.mg X.base k x C ps sp)(hr:bi (k+1) X.A)(hg:Gl X x)(hx:qu X E)
  (ha:PA X (e::es) t) (hdb:(x==("__debug__":Str))=false:=by decide) (he:starEach (e::es) X.env=(false,eval e X.env)::starEach es X.env:=by rfl) (hpl:(backTo pos (starEach es X.env)).any (·.1)=false:=by rfl):
  PS X (.Raise (some (.Call (.Name x p) (e::es) [] pos)) none rpos) (qv C sp E t):=by
 obtain ⟨f,fd,F,hm,hb⟩:=c.ex;exact vz hm F hr hg c.at_ hb hx ha hdb he hpl
def nJ {Y:Addr} (hK:X.K=K) (hg:Gl X x) (hm:X.mg x=some (.ref Y)) (b:oP K Y) (ha:PA X (e::es) t) (hdb:(x==("__debug__":Str))=false:=by decide)
  (hst:starEach (e::es) X.env=(false,eval e X.env)::starEach es X.env:=by rfl) (hpl:(backTo pos (starEach es X.env)).any (·.1)=false:=by rfl)
  (ht:eval (.Call (.Attribute (.Name x p) "__init__" apos) (e::es) [] pos) X.env=(do
   let ov <- eval (.Name x p) X.env
   standAt apos.atName
   let (f,first) <- holding [ov] (getMethod ov "__init__" pl)
   callWith pos f first (backTo pos (starEach (e::es) X.env)) (backToKw pos (keywordEach [] X.env))):=by rfl):
  PE X (.Call (.Attribute (.Name x p) "__init__" apos) (e::es) [] pos) (mP K t):=by
 subst hK;exact oM hg hm b.h1 b.h2 b.h3 ha hdb hst hpl ht
def ua{value:Expr}(hK:X.K=K)(ha:PE X o ta)(hv:PE X value tv)(hs:swapsWith value (some (.Attribute o f pos')) pos.line X.env=pure false):PS X (.Assign [.Attribute o f pos'] value pos) (vx K ta tv f):=by
 subst hK;exact vy ha hv hs
end
end L2
namespace Yd
structure St where
 tr:List (List Int)
 left:List Int
 came:Nat
abbrev Mv:=Bool×Nat
def step(T:List Int)(bl:Bool)(s:St)(m:Mv):Option St:=
 if m.1=true then
  match T[s.came]? with
  | some x=>some ⟨s.tr.set m.2 (s.tr.getD m.2 []++[x]),s.left,s.came+1⟩
  | none=>none
 else
  if bl=true then
   match (s.tr.getD m.2 []).getLast? with
   | some x=>some ⟨s.tr.set m.2 (s.tr.getD m.2 []).dropLast,s.left++[x],s.came⟩
   | none=>none
  else
   match s.tr.getD m.2 [] with
   | x::r=>some ⟨s.tr.set m.2 r,s.left++[x],s.came⟩
   | []=>none
def init(many:Nat):St:=⟨List.replicate many [],[],0⟩
def steps(T:List Int)(bl:Bool):St->List Mv->Option St
 | s,[]=>some s
 | s,m::r=>(step T bl s m).bind λs'=>steps T bl s' r
def fq(T:List Int)(bl:Bool):∀(s:St) (ms:List Mv) (m:Mv),steps T bl s (ms++[m])=(steps T bl s ms).bind λs'=>step T bl s' m
 | s,[],m=>by
  show (step T bl s m).bind (λs'=>some s')=step T bl s m;cases step T bl s m<;>rfl
 | s,x::r,m=>by
  show (step T bl s x).bind (λs'=>steps T bl s' (r++[m]))=((step T bl s x).bind λs'=>steps T bl s' r).bind λs'=>step T bl s' m;cases e:step T bl s x with
  | none=>rfl
  | some s'=>exact fq T bl s' r m
def cN(h:step T bl s m=some s'):s'.tr.length=s.tr.length:=by
 unfold step at h
 split at h
 ·split at h
  ·cases h;simp
  ·cases h
 ·split at h
  ·split at h
   ·cases h;simp
   ·cases h
  ·split at h
   ·cases h;simp
   ·cases h
def gP:∀{s s':St} {ms:List Mv},steps T bl s ms=some s'->s'.tr.length=s.tr.length
 | s,s',[],h=>by
  have e:s=s':=by simpa[steps] using h
  rw[e]
 | s,s',x::r,h=>by
  have h1':(step T bl s x).bind (λs''=>steps T bl s'' r)=some s':=h;cases e:step T bl s x with
  | none=>rw[e] at h1';cases h1'
  | some s1=>
   rw[e] at h1';rw[gP h1',cN e]
def ub(h:step T bl s m=some s')(hc:s.came<=T.length):s'.came<=T.length:=by
 unfold step at h
 split at h
 ·split at h
  ·rename_i x e
   cases h;have:=(List.getElem?_eq_some_iff.mp e).1;show s.came+1<=T.length;omega
  ·cases h
 ·split at h
  ·split at h
   ·cases h;exact hc
   ·cases h
  ·split at h
   ·cases h;exact hc
   ·cases h
def ll:∀{s s':St} {ms:List Mv},steps T bl s ms=some s'->s.came<=T.length->s'.came<=T.length
 | s,s',[],h,hc=>by
  have e:s=s':=by simpa[steps] using h
  rw[<- e];exact hc
 | s,s',x::r,h,hc=>by
  have h1':(step T bl s x).bind (λs''=>steps T bl s'' r)=some s':=h;cases e:step T bl s x with
  | none=>rw[e] at h1';cases h1'
  | some s1=>
   rw[e] at h1';exact ll h1' (ub e hc)
def mR(h:step T bl s m=some s')(hz:∀(j:Nat) c,s.tr[j]?=some c->c.length<=s.came):∀(j:Nat) c,s'.tr[j]?=some c->c.length<=s'.came:=by
 have gd:(s.tr.getD m.2 []).length<=s.came:=by
  rw[getD_eq_getElem?_getD];cases e:s.tr[m.2]? with
  | none=>exact zero_le _
  | some c=>exact hz _ c e
 have key:∀(c':List Int) (n:Nat),c'.length<=n->s.came<=n->∀(j:Nat) c,(s.tr.set m.2 c')[j]?=some c->c.length<=n:=λc' n h1 h2 j c e=>by
  by_cases ej:m.2=j
  ·subst ej
   rw[List.getElem?_set] at e;simp only[if_true] at e
   split at e
   ·cases e;exact h1
   ·cases e
  ·rw[getElem?_set_ne ej] at e
   exact Nat.le_trans (hz j c e) h2
 unfold step at h
 split at h
 ·split at h
  ·cases h
   exact key _ _ (by rw[length_append];exact Nat.add_le_add_right gd 1) (le_succ _)
  ·cases h
 ·split at h
  ·split at h
   ·cases h
    exact key _ _ (Nat.le_trans (by rw[length_dropLast];exact Nat.sub_le _ _) gd) (Nat.le_refl _)
   ·cases h
  ·split at h
   ·rename_i x r e
    cases h;rw[e] at gd;exact key _ _ (Nat.le_trans (le_succ _) gd) (Nat.le_refl _)
   ·cases h
end Yd
namespace Ins
def vD{ps:List Nat}{k a:Nat}(h:ps.Perm (List.range k)):(ps.take a++[k]++ps.drop a).Perm (List.range (k+1)):=by
 rw[range_succ];have e:(ps.take a++[k]++ps.drop a).Perm (ps.take a++ps.drop a++[k]):=by
  rw[append_assoc,append_assoc];exact List.Perm.append_left _ List.perm_append_comm
 rw[List.take_append_drop] at e;exact e.trans (List.Perm.append_right _ h)
def wag(sc:List Int)(far:Int)(j:Nat):Int:=(7*(j:Int)+(sc.getD j 0)/3%7-90)*far
def vE(sc:List Int)(hf:0<far)(h:i<j):wag sc far i<wag sc far j:=by
 unfold wag;refine Int.mul_lt_mul_of_pos_right ?_ hf;have a1:=emod_nonneg ((sc.getD i 0)/3) (show (7:Int)≠0 by decide);have a2:=emod_lt_of_pos ((sc.getD i 0)/3) (show (0:Int)<7 by decide);have b1:=emod_nonneg ((sc.getD j 0)/3) (show (7:Int)≠0 by decide);omega
def yv(sc:List Int)(hf:0<far)(h:wag sc far i=wag sc far j):i=j:=by
 rcases Nat.lt_trichotomy i j with z | z | z
 ·have:=vE sc hf z;omega
 ·exact z
 ·have:=vE sc hf z;omega
def uc{ps:List Nat}{f:Nat->Int}(h:ps.Nodup)(hf:∀i j,f i=f j->i=j):(ps.map f).Nodup:=by
 induction ps with
 | nil=>exact List.nodup_nil
 | cons a r ih=>
  obtain ⟨h1,h2⟩:=nodup_cons.mp h;rw[map_cons];refine nodup_cons.mpr {λm=>?_,ih h2};obtain ⟨b,hb,e⟩:=mem_map.mp m;exact h1 (hf _ _ e▸hb)
def oQ(sc:List Int){far:Int}(hf:0<far){n:Nat}{ps:List Nat}(h:ps.Perm (List.range n)):(ps.map (wag sc far)).Nodup:=
 uc (h.nodup_iff.mpr List.nodup_range) λ_ _ e=>yv sc hf e
def yw{n:Nat}{ps:List Nat}(h:ps.Perm (List.range n)){x:Nat}(hx:x∈ps):x<n:=mem_range.mp (h.mem_iff.mp hx)
end Ins
namespace My
open PySem L2
def HP:PassesOwn M A env (λ_ _=>False):=PassesOwn.never
def ft(b:Bool):Str:=if b then "in" else "out"
def vF(b:Bool):Txt.join ("":Str) [ft b]=ft b:=by cases b<;>decide +kernel
def yx(b:Bool):inV (.str (ft b)) [.str "in",.str "out"]=true:=by cases b<;>decide +kernel
def vG(b:Bool):(ft b).length<=3:=by cases b<;>decide +kernel
def MvT(H:Hp)(r:Addr)(m:Yd.Mv):Prop:=H r=some (.tup [.str (ft m.1),.int (m.2:Int)])
def bg(H:Hp)(a:Addr)(ms:List Yd.Mv):Prop:=∃rs:List Addr,H a=some (.lst (rs.map V.ref))/\Paired (MvT H) rs ms
def Paired.get{α β:Type}{F:α->β->Prop}:∀{l:List α} {m:List β} {i:Nat} {x:α},Paired F l m->l[i]?=some x->∃y,m[i]?=some y/\F x y
 | _,_,_,_,.nil,e=>by simp at e
 | _,_,0,_,.cons r _,e=>by simp at e;subst e;exact {_,rfl,r}
 | _,_,i+1,x,.cons _ t,e=>by
  obtain ⟨u,h1,h2⟩:=Paired.get (i:=i) (x:=x) t (by simpa using e);exact ⟨u,by simpa using h1,h2⟩
def Paired.imp{α β:Type}{F G:α->β->Prop}(f:∀a b,F a b->G a b):∀{l:List α} {m:List β},Paired F l m->Paired G l m
 | _,_,.nil=>.nil
 | _,_,.cons r t=>.cons (f _ _ r) (Paired.imp f t)
def Paired.snoc'{α β:Type}{F:α->β->Prop}{a:α}{b:β}:∀{l:List α} {m:List β},Paired F l m->F a b->Paired F (l++[a]) (m++[b])
 | _,_,.nil,h=>.cons h .nil
 | _,_,.cons h1 t,h=>.cons h1 (Paired.snoc' t h)
def MvT.same(s:ag H H')(h:MvT H r m):MvT H' r m:=s _ _ h
def bg.same{H H':Hp}(s:ag H H'){a:Addr}{ms:List Yd.Mv}(h:bg H a ms):bg H' a ms:=
 let ⟨rs,e,p⟩:=h;⟨rs,s _ _ e,Paired.imp (λ_ _ z=>z.same s) p⟩
def ag.updN(s:ag H H')(h:H a=none):ag H (upd H' a o):=λb u e=>by
 rw[ae (af e h)];exact s b u e
def dX{c A B:Prop} [Decidable c] (hc:c) (h:A):if decide c=true then A else B:=by rw[if_pos (decide_eq_true hc)];exact h
def dB{c A B:Prop} [Decidable c] (hc:¬ c) (h:B):if decide c=true then A else B:=by rw[if_neg (by rw[decide_eq_false hc];exact Bool.false_ne_true)];exact h
def ln{T:List Int}{b:Bool}{s s' s'':Yd.St}{ms:List Yd.Mv}{i:Nat}{m:Yd.Mv}(h:Yd.steps T b s (ms.take i)=some s')(hm:ms[i]?=some m)(h2:Yd.step T b s' m=some s''):Yd.steps T b s (ms.take (i+1))=some s'':=by
 rw[aJ hm,Yd.fq,h];exact h2
end My
namespace L2
open PySem PySem.Spec PyProof.Rows
open PySem.W (Dat)
def dI(xs:List Int):Dat:=.list (xs.map .int)
def DVs.ints{K:PySem.W.Frag}{H:Hp}:∀(xs:List Int),DVs K H (xs.map V.int) (xs.map .int)
 | []=>.nil
 | x::r=>.cons (.int x) (DVs.ints r)
def DV.ints{K:PySem.W.Frag}{H:Hp}{a:Addr}{xs:List Int}(h:SqL K H a (xs.map V.int)):DV K H (.ref a) (dI xs):=.lst h (DVs.ints xs)
def bq(n:Nat)(xs:List Int):kqdOk (n+1) (dI xs)=true:=by
 unfold dI;rw[kqdOk];rw[List.all_eq_true];intro d hd;obtain ⟨x,_,rfl⟩:=mem_map.mp hd;unfold kqdOk;rfl
def qx(h:dI xs=dI ys):xs=ys:=by
 have h1:xs.map Dat.int=ys.map Dat.int:=Dat.list.inj h;exact List.map_inj_right (λa b e=>Dat.int.inj e) |>.mp h1
def fu(h:t<n):ixN n (t:Int)=some t:=by
 unfold ixN;rw[if_pos (),if_pos ()];simp
end L2
namespace My
open PySem L2
open PySem.W (Dat)
def fX{c A B:Prop}{inst:Decidable c}(hc:c)(h:B):if (!decide c)=true then A else B:=rN hc h
def sd{c A B:Prop}{inst:Decidable c}(hc:¬ c)(h:A):if (!decide c)=true then A else B:=by
 rw[decide_eq_false hc];exact dw h
def oU{c A B:Prop}{inst:Decidable c}(h1:¬ c->A)(h2:c->B):if (!decide c)=true then A else B:=by
 by_cases h:c
 ·exact rN h (h2 h)
 ·exact sd h (h1 h)
def vH{c A B:Prop}{inst:Decidable c}(h1:c->A)(h2:¬ c->B):if decide c=true then A else B:=by
 by_cases h:c
 ·exact dX h (h1 h)
 ·exact dB h (h2 h)
def Paired.append{α β:Type}{F:α->β->Prop}:∀{l l':List α} {m m':List β},Paired F l m->Paired F l' m'->Paired F (l++l') (m++m')
 | _,_,_,_,.nil,h=>h
 | _,_,_,_,.cons a b,h=>.cons a (Paired.append b h)
def Paired.take{α β:Type}{F:α->β->Prop}:∀{l:List α} {m:List β} (n:Nat),Paired F l m->Paired F (l.take n) (m.take n)
 | _,_,0,_=>.nil
 | _,_,_+1,.nil=>.nil
 | _,_,n+1,.cons a b=>.cons a (Paired.take n b)
structure Yds(H0 H:Hp)(kA:Addr)(ls:List Addr)(tr:List (List Int)):Prop where
 lst:H kA=some (.lst (ls.map V.ref))
 len:ls.length=tr.length
 each:∀(j:Nat) l,ls[j]?=some l->∃c,tr[j]?=some c/\H l=some (.lst (c.map V.int))/\H0 l=none/\l≠kA
 inj:∀(i j:Nat) l,ls[i]?=some l->ls[j]?=some l->i=j
variable {H0 H H':Hp} {kA:Addr} {ls:List Addr} {tr:List (List Int)}
def Yds.same(h:Yds H0 H kA ls tr)(s:ag H H'):Yds H0 H' kA ls tr:=
 ⟨s _ _ h.lst,h.len,λj l e=>let ⟨c,a,b,r⟩:=h.each j l e;⟨c,a,s _ _ b,r⟩,h.inj⟩
def Yds.set(h:Yds H0 H kA ls tr)(e:ls[j]?=some l)(c':List Int):Yds H0 (upd H l (.lst (c'.map V.int))) kA ls (tr.set j c'):=by
 obtain ⟨c,e1,e2,e3,e4⟩:=h.each j l e;refine ⟨by rw[ae (Ne.symm e4)];exact h.lst,by rw[length_set];exact h.len,λi l' e'=>?_,h.inj⟩;obtain ⟨c1,a1,a2,a3,a4⟩:=h.each i l' e'
 by_cases hij:i=j
 ·subst hij
  rw[e] at e';cases e';exact ⟨c',by rw[getElem?_set_self (List.getElem?_eq_some_iff.mp e1).1],aa,a3,a4⟩
 ·have hl:l'≠l:=λz=>hij (h.inj i j l (z▸e') e)
  exact ⟨c1,by rw[getElem?_set_ne (Ne.symm hij)];exact a1,by rw[ae hl];exact a2,a3,a4⟩
def Yds.other(h:Yds H0 H kA ls tr)(h1:kA≠a)(h2:∀(j:Nat) l,ls[j]?=some l->l≠a):Yds H0 (upd H a o) kA ls tr:=
 ⟨by rw[ae h1];exact h.lst,h.len,λj l e=>let ⟨c,a1,b,r⟩:=h.each j l e;⟨c,a1,by rw[ae (h2 j l e)];exact b,r⟩,h.inj⟩
def Yds.push(h:Yds H0 H kA ls tr)(s:ag H0 H)(hl:H l=none):Yds H0 (upd (upd H l (.lst [])) kA (.lst (ls.map V.ref++[.ref l]))) kA (ls++[l]) (tr++[[]]):=by
 have ekl:kA≠l:=af h.lst hl;have old:∀{j:Nat} {l':Addr},(ls++[l])[j]?=some l'->(ls[j]?=some l'/\j<ls.length)\/(l'=l/\j=ls.length):=λ{j l'} e=>by
  rcases lt_or_ge j ls.length with hj | hj
  ·rw[getElem?_append_left hj] at e
   exact .inl ⟨e,hj⟩
  ·rw[getElem?_append_right hj] at e
   cases q:j-ls.length with
   | zero=>rw[q] at e;exact .inr {(Option.some.inj e).symm,()}
   | succ m=>rw[q] at e;simp at e
 refine ⟨by rw[aa,map_append];rfl,by simp[h.len],λj l' e=>?_,λi j l' e1 e2=>?_⟩
 ·rcases old e with ⟨e,hj⟩ | ⟨rfl,rfl⟩
  ·obtain ⟨c,a1,a2,a3,a4⟩:=h.each j l' e
   exact ⟨c,by rw[getElem?_append_left (by rw[<- h.len];exact hj)];exact a1,by rw[ae a4];exact ai a2 hl,a3,a4⟩
  ·exact ⟨[],by rw[getElem?_append_right (by rw[h.len];exact Nat.le_refl _),h.len,sub_self];rfl,by rw[ae ekl.symm,aa];rfl,s.free hl,ekl.symm⟩
 ·rcases old e1 with ⟨f1,h1⟩ | ⟨f1,h1⟩<;>rcases old e2 with ⟨f2,h2⟩ | ⟨f2,h2⟩
  ·exact h.inj i j l' f1 f2
  ·obtain ⟨c,a1,a2,_⟩:=h.each i l' f1
   rw[f2,hl] at a2;cases a2
  ·obtain ⟨c,a1,a2,_⟩:=h.each j l' f2
   rw[f1,hl] at a2;cases a2
  ·omega
end My
namespace L2
open PySem PySem.Spec PyProof.Rows
end L2
namespace My
open PySem L2
end My
namespace L2
open PySem PySem.Spec PyProof.Rows
def gZ(n:Nat):Option Int->Nat
 | none=>n
 | some i=>(max (-1) (min (if i<0 then i+n else i) ((n:Int)-1))+1).toNat
def yy(n:Nat)(lo:Option Int):gZ n lo<=n:=by
 cases lo with
 | none=>exact Nat.le_refl _
 | some i=>unfold gZ;split<;>omega
def ud(xs:List V)(lo:Option Int):List V:=(xs.take (gZ xs.length lo)).reverse
def oV{α:Type}(its:List α):∀m,m<=its.length->((List.range m).map λk=>m-1-k).filterMap (its[·]?)=(its.take m).reverse
 | 0,_=>rfl
 | m+1,h=>by
  have ih:=oV its m ();rw[List.range_succ_eq_map,map_cons,map_map,List.filterMap_cons];have e0:its[m+1-1-0]?=some its[m]:=by simp
  rw[e0,take_snocG (its:=its) (show m<its.length by omega),List.reverse_append];show its[m]::_=its[m]::_;congr 1;rw[<- ih];congr 1;refine List.map_congr_left λk hk=>?_;show m+1-1-(k+1)=m-1-k;omega
where
 take_snocG {α:Type} {its:List α} {m:Nat} (h:m<its.length):its.take (m+1)=its.take m++[its[m]]:=by
  rw[take_add_one,List.getElem?_eq_getElem h];rfl
def lY(its:List Value)(lo:Option Int):slicePick its.toArray lo none (some (-1))=((its.take (gZ its.length lo)).reverse).toArray:=by
 have hle:=yy its.length lo;rw[<- oV its _ hle];unfold slicePick;have hb:(sliceBounds lo none (some (-1)) its.toArray.size).1=(gZ its.length lo:Int)-1/\(sliceBounds lo none (some (-1)) its.toArray.size).2.1=-1/\(sliceBounds lo none (some (-1)) its.toArray.size).2.2=-1:=by
  refine {?_,?_,rfl}
  ·rw[size_toArray]
   cases lo with
   | none=>simp[sliceBounds,gZ]
   | some i=>
    simp only[sliceBounds,gZ,Option.getD_some,show ¬ ((-1:Int)>0) by decide,if_false]
    split<;>omega
  ·simp[sliceBounds]
 rw[hb.1,hb.2.1,hb.2.2];congr 1;have er:sliceRange ((gZ its.length lo:Int)-1) (-1) (-1)=(List.range (gZ its.length lo)).map λk=>gZ its.length lo-1-k:=by
  unfold sliceRange;simp only[show ¬ ((-1:Int)>0) by decide,if_false]
  by_cases h:gZ its.length lo=0
  ·rw[h]
   simp
  ·rw[if_pos (show ((gZ its.length lo:Int)-1) > -1 by omega)]
   have e1:(((gZ its.length lo:Int)-1 - -1 - -1-1) / - -1).toNat=gZ its.length lo:=by
    rw[show - -(1:Int)=1 from rfl,Int.ediv_one];omega
   rw[e1];refine List.map_congr_left λk hk=>?_;have:=mem_range.mp hk;omega
 rw[er];congr 1
 funext x
 simp
section
variable {X:Cx} {K:PySem.W.Frag} {e st:Expr} {te:TE} {lo:Option Expr} {tl ts:TO} {pos p2:Pos}
def C0(K:PySem.W.Frag)(te:TE)(tl ts:TO):TE:=λσ H Q=>te σ H λx H1=>tl σ H1 λl H2=>ts σ H2 λz H3=>z=some (-1)/\∃a xs,x=.ref a/\SqL K H3 a xs/\∀p,H3 p=none->Q (.ref p) (upd H3 p (.lst (ud xs l)))
def A8(hK:X.K=K)(he:PE X e te)(hl:PO X lo tl)(hs:PO X (some st) ts):PE X (.Subscript e (.Slice lo none (some st) p2) pos) (C0 K te tl ts):=by
 subst hK;intro pins s σ H Q I h;refine Subscript_ (thn (he pins s σ H _ I h) λv s1 ⟨x,H1,I1,r1,q1⟩=>?_);refine wpAny_Slice (thn (hl pins s1 σ H1 _ I1 q1) λvl s2 ⟨l,H2,I2,pl,q2⟩=>?_);rw[evalPart_none];refine wpAny_pure (thn (hs pins s2 σ H2 _ I2 q2) λvs s3 ⟨z,H3,I3,pz,ez,a,xs,ex,hx,q3⟩=>?_);subst ez ex;cases r1;have I4:Inv X pins σ H3 { s3 with heap:=s3.heap.push { cls:=.type "slice",data:=.fields #[vl,.none,vs] } }:=I3.kept (t':=s3.toks) λb ob q=>get?_push_of_some _ q;obtain ⟨its,r,ht,hz⟩:=I4.list hx;have hlen:=r.length;show wpAny (model X.prog X.w) X.A (subscriptTail e (.Slice lo none (some st) p2) (.ref a) (.ref s3.heap.objs.size)) (EP X pins σ Q) X.xe { s3 with heap:=s3.heap.push { cls:=.type "slice",data:=.fields #[vl,.none,vs] } }
 refine tail_any (ops:=[.ref a,.ref s3.heap.objs.size]) ht.isList.typeIs slot_list_getitem.lookup ?_ (by with_unfolding_all rfl);refine wpAny_getItem_list_slice ht.isList (Heap.IsSliceOf.new ..) pl .none pz (by simp) ?_ (by rw[size_toArray];omega);rw[lY,<- hlen];refine {.ref _,_,I4.laid (t':=s3.toks) (o:=.lst (ud xs l)) (λb ob q=>get?_push_of_some _ q) (Nat.le_refl _) ?_,rfl,q3 _ (I4.hok.fresh (Nat.le_refl _))};refine {?_,(its.take (gZ xs.length l)).reverse,0,?_,get?_push_size _ rfl}
 ·unfold ud
  rw[length_reverse,length_take];omega
 ·unfold ud
  exact (r.take _).reverse
end
def vI(xs:List V):ud xs none=xs.reverse:=by
 unfold ud gZ;rw[take_length]
end L2
namespace Yd
def lq(h:step T bl s m=some s'):∃w,s'.left=s.left++w:=by
 unfold step at h
 split at h
 ·split at h
  ·cases h;exact ⟨[],by simp⟩
  ·cases h
 ·split at h
  ·split at h
   ·cases h;exact {_,rfl}
   ·cases h
  ·split at h
   ·cases h;exact {_,rfl}
   ·cases h
def bN{s st:St}(h:steps T bl s (m::r)=some st):∃s',step T bl s m=some s'/\steps T bl s' r=some st:=by
 have h1:(step T bl s m).bind (λs'=>steps T bl s' r)=some st:=h;cases e:step T bl s m with
 | none=>rw[e] at h1;cases h1
 | some s'=>rw[e] at h1;exact ⟨s',rfl,h1⟩
def mS:∀{s st:St} {ms:List Mv},steps T bl s ms=some st->∃w,st.left=s.left++w
 | s,st,[],h=>by
  have e:s=st:=by simpa[steps] using h
  exact ⟨[],by rw[e];simp⟩
 | s,st,m::r,h=>by
  obtain ⟨s',h1,h2⟩:=bN h;obtain ⟨w1,e1⟩:=lq h1;obtain ⟨w2,e2⟩:=mS h2;exact ⟨w1++w2,by rw[e2,e1,append_assoc]⟩
def bC:∀{s:St} {a b:List Mv},steps T bl s (a++b)=(steps T bl s a).bind λs'=>steps T bl s' b
 | s,[],b=>rfl
 | s,m::a,b=>by
  show (step T bl s m).bind (λs'=>steps T bl s' (a++b))=((step T bl s m).bind λs'=>steps T bl s' a).bind λs'=>steps T bl s' b;cases e:step T bl s m with
  | none=>rfl
  | some s'=>exact bC
def ck(h:step T bl s m=some s')(hv:m.2<s.tr.length):
  (m.1=true/\∃x c,T[s.came]?=some x/\s.tr[m.2]?=some c/\s'=⟨s.tr.set m.2 (c++[x]),s.left,s.came+1⟩) \/
  (m.1=false/\bl=true/\∃x c,s.tr[m.2]?=some (c++[x])/\s'=⟨s.tr.set m.2 c,s.left++[x],s.came⟩) \/
  (m.1=false/\bl=false/\∃x c,s.tr[m.2]?=some (x::c)/\s'=⟨s.tr.set m.2 c,s.left++[x],s.came⟩):=by
 obtain ⟨c,hc⟩:∃c,s.tr[m.2]?=some c:=⟨_,List.getElem?_eq_getElem hv⟩;have hD:s.tr.getD m.2 []=c:=by rw[getD_eq_getElem?_getD,hc];rfl
 unfold step at h;rw[hD] at h
 split at h
 ·rename_i h1
  split at h
  ·rename_i x e
   cases h;exact .inl ⟨h1,x,c,e,hc,rfl⟩
  ·cases h
 ·rename_i h1
  have h1':m.1=false:=by simpa using h1
  split at h
  ·rename_i h2
   split at h
   ·rename_i x e
    cases h;refine .inr (.inl {h1',h2,x,c.dropLast,?_,rfl});rw[hc];congr 1;have hne:c≠[]:=λz=>by rw[z] at e;cases e
    have:=List.dropLast_concat_getLast hne;rw[List.getLast?_eq_some_getLast hne] at e;rw[<- Option.some.inj e];exact this.symm
   ·cases h
  ·rename_i h2
   have h2':bl=false:=by simpa using h2
   split at h
   ·rename_i x r
    cases h;exact .inr (.inr {h1',h2',_,_,hc,rfl})
   ·cases h
def nK{tr:List (List Int)}{j:Nat}{c c':List Int}(h:tr[j]?=some c):((tr.set j c').map List.length).sum+c.length=(tr.map List.length).sum+c'.length:=by
 induction tr generalizing j with
 | nil=>simp at h
 | cons a r ih=>
  cases j with
  | zero=>
   have e:a=c:=by simpa using h
   subst e;simp only[List.set_cons_zero,map_cons,List.sum_cons];omega
  | succ j=>
   have h':r[j]?=some c:=by simpa using h
   have:=ih h';simp only[List.set_cons_succ,map_cons,List.sum_cons];omega
def qy{l:List Nat}{x:Nat}(h:x∈l):x<=l.sum:=by
 induction l with
 | nil=>cases h
 | cons a r ih=>
  rw[List.sum_cons];rcases mem_cons.mp h with rfl | z
  ·omega
  ·have:=ih z;omega
def cO{T:List Int}{bl:Bool}:∀{s st:St} {ms:List Mv},steps T bl s ms=some st->(∀m∈ms,m.2<s.tr.length)->s.left.length+(s.tr.map List.length).sum=s.came->st.left.length+(st.tr.map List.length).sum=st.came
 | s,st,[],h,_,hc=>by
  have e:s=st:=by simpa[steps] using h
  rw[<- e];exact hc
 | s,st,m::r,h,hv,hc=>by
  obtain ⟨s',h1,h2⟩:=bN h;have hl:=cN h1;refine cO h2 (λm' hm=>by rw[hl];exact hv m' (mem_cons_of_mem _ hm)) ?_;rcases ck h1 (hv m mem_cons_self) with ⟨_,x,c,_,e,rfl⟩ | ⟨_,_,x,c,e,rfl⟩ | ⟨_,_,x,c,e,rfl⟩
  ·have:=nK (c':=c++[x]) e
   simp only[length_append,length_cons,length_nil] at this ⊢;omega
  ·have:=nK (c':=c) e
   simp only[length_append,length_cons,length_nil] at this ⊢;omega
  ·have:=nK (c':=c) e
   simp only[length_append,length_cons,length_nil] at this ⊢;omega
def fv(n:Nat):(init n).left.length+((init n).tr.map List.length).sum=(init n).came:=by
 show 0+((List.replicate n ([]:List Int)).map List.length).sum=0;rw[map_replicate];simp
structure yz(T:List Int)(st:St):Prop where
 came:st.came=T.length
 empty:∀(j:Nat) c,st.tr[j]?=some c->c=[]
def gQ{T:List Int}{bl:Bool}{n:Nat}{st:St}{ms:List Mv}(h:steps T bl (init n) ms=some st)(hv:∀m∈ms,m.2<n)(hl:st.left.length=T.length):yz T st:=by
 have h1:=cO h (λm hm=>by show m.2<(List.replicate n ([]:List Int)).length;rw[length_replicate];exact hv m hm) (fv n);have h2:=ll h (zero_le _);refine {(),λj c e=>?_};have h3:c.length<=(st.tr.map List.length).sum:=by
  have hm:c.length∈st.tr.map List.length:=mem_map.mpr ⟨c,mem_of_getElem? e,rfl⟩;exact qy hm
 have h4:c.length=0:=()
 exact List.length_eq_zero_iff.mp h4
def qB:∀{s st:St} {ms:List Mv} {j:Nat} {c:List Int} {a:Int},steps T bl s ms=some st->(∀m∈ms,m.2<s.tr.length)->yz T st->s.tr[j]?=some c->a∈c->∃w,st.left=s.left++w/\a∈w
 | s,st,[],j,c,a,h,_,D,hc,ha=>by
  have e:s=st:=by simpa[steps] using h
  rw[e] at hc;rw[D.empty j c hc] at ha;cases ha
 | s,st,m::r,j,c,a,h,hv,D,hc,ha=>by
  obtain ⟨s',h1,h2⟩:=bN h;have hl:=cN h1;have hv':∀m'∈r,m'.2<s'.tr.length:=λm' hm=>by rw[hl];exact hv m' (mem_cons_of_mem _ hm)
  obtain ⟨w1,e1⟩:=lq h1;have go:∀{c':List Int},s'.tr[j]?=some c'->a∈c'->∃w,st.left=s.left++w/\a∈w:=λhc' ha'=>by
   obtain ⟨w,e,hw⟩:=qB h2 hv' D hc' ha';exact ⟨w1++w,by rw[e,e1,append_assoc],mem_append_right _ hw⟩
  have gone:∀{x:Int},s'.left=s.left++[x]->a=x->∃w,st.left=s.left++w/\a∈w:=λ{x} e ex=>by
   obtain ⟨w,e2⟩:=mS h2;exact ⟨[x]++w,by rw[e2,e,append_assoc],by simp[ex]⟩
  have hj:j<s.tr.length:=(List.getElem?_eq_some_iff.mp hc).1;rcases ck h1 (hv m mem_cons_self) with ⟨_,x,d,_,e,es⟩ | ⟨_,_,x,d,e,es⟩ | ⟨_,_,x,d,e,es⟩
  ·by_cases hjm:m.2=j
   ·subst hjm
    rw[hc] at e;cases e;exact go (c':=c++[x]) (by rw[es];exact getElem?_set_self hj) (mem_append_left _ ha)
   ·exact go (c':=c) (by rw[es];show (s.tr.set m.2 _)[j]?=_;rw[getElem?_set_ne hjm];exact hc) ha
  ·by_cases hjm:m.2=j
   ·subst hjm
    rw[hc] at e;have e':c=d++[x]:=Option.some.inj e;rw[e'] at ha;rcases mem_append.mp ha with z | z
    ·exact go (c':=d) (by rw[es];exact getElem?_set_self hj) z
    ·exact gone (by rw[es]) (by simpa using z)
   ·exact go (c':=c) (by rw[es];show (s.tr.set m.2 _)[j]?=_;rw[getElem?_set_ne hjm];exact hc) ha
  ·by_cases hjm:m.2=j
   ·subst hjm
    rw[hc] at e;have e':c=x::d:=Option.some.inj e;rw[e'] at ha;rcases mem_cons.mp ha with z | z
    ·exact gone (by rw[es]) z
    ·exact go (c':=d) (by rw[es];exact getElem?_set_self hj) z
   ·exact go (c':=c) (by rw[es];show (s.tr.set m.2 _)[j]?=_;rw[getElem?_set_ne hjm];exact hc) ha
def oW:∀{s st:St} {ms:List Mv} {k:Nat} {x:Int},steps T bl s ms=some st->(∀m∈ms,m.2<s.tr.length)->yz T st->s.came<=k->T[k]?=some x->∃w,st.left=s.left++w/\x∈w
 | s,st,[],k,x,h,_,D,hk,hx=>by
  have e:s=st:=by simpa[steps] using h
  have:=(List.getElem?_eq_some_iff.mp hx).1;have:=D.came;rw[<- e] at this;omega
 | s,st,m::r,k,x,h,hv,D,hk,hx=>by
  obtain ⟨s',h1,h2⟩:=bN h;have hl:=cN h1;have hv':∀m'∈r,m'.2<s'.tr.length:=λm' hm=>by rw[hl];exact hv m' (mem_cons_of_mem _ hm)
  obtain ⟨w1,e1⟩:=lq h1;have go:s'.came<=k->∃w,st.left=s.left++w/\x∈w:=λhk'=>by
   obtain ⟨w,e,hw⟩:=oW h2 hv' D hk' hx;exact ⟨w1++w,by rw[e,e1,append_assoc],mem_append_right _ hw⟩
  rcases ck h1 (hv m mem_cons_self) with ⟨_,y,d,ey,e,es⟩ | ⟨_,_,y,d,e,es⟩ | ⟨_,_,y,d,e,es⟩
  ·by_cases hkk:k=s.came
   ·subst hkk
    rw[hx] at ey;cases ey;obtain ⟨w,e',hw⟩:=qB h2 hv' D (j:=m.2) (c:=d++[x]) (a:=x) (by rw[es];exact getElem?_set_self (hv m mem_cons_self)) (mem_append_right _ (by simp));exact ⟨w1++w,by rw[e',e1,append_assoc],mem_append_right _ hw⟩
   ·exact go (by rw[es];show s.came+1<=k;omega)
  ·exact go (by rw[es];exact hk)
  ·exact go (by rw[es];exact hk)
def Cg:∀{s st:St} {ms:List Mv} {j:Nat} {u v w:List Int} {a b:Int},steps T bl s ms=some st->(∀m∈ms,m.2<s.tr.length)->yz T st->st.left.Pairwise (· < ·)->s.tr[j]?=some (u++a::v++b::w)->
  if bl=true then b<a else a<b
 | s,st,[],j,u,v,w,a,b,h,_,D,_,hc=>by
  have e:s=st:=by simpa[steps] using h
  rw[e] at hc;have:=D.empty j _ hc;simp at this
 | s,st,m::r,j,u,v,w,a,b,h,hv,D,hp,hc=>by
  obtain ⟨s',h1,h2⟩:=bN h;have hl:=cN h1;have hv':∀m'∈r,m'.2<s'.tr.length:=λm' hm=>by rw[hl];exact hv m' (mem_cons_of_mem _ hm)
  have hj:j<s.tr.length:=(List.getElem?_eq_some_iff.mp hc).1;have stay:∀{u' v' w':List Int},s'.tr[j]?=some (u'++a::v'++b::w')->if bl=true then b<a else a<b:=λe=>Cg h2 hv' D hp e;have other:∀(c':List Int),m.2≠j->(s.tr.set m.2 c')[j]?=some (u++a::v++b::w):=λc' hm=>by rw[getElem?_set_ne hm];exact hc
  have order:∀{y z:Int} {c':List Int},s'.left=s.left++[y]->s'.tr[j]?=some c'->z∈c'->y<z:=λ{y z c'} e hc' hz=>by
   obtain ⟨w',e',hw⟩:=qB h2 hv' D hc' hz;rw[e',e,append_assoc,pairwise_append] at hp;exact (pairwise_append.mp hp.2.1).2.2 y (by simp) z hw
  rcases ck h1 (hv m mem_cons_self) with ⟨_,y,d,ey,e,es⟩ | ⟨_,hb,y,d,e,es⟩ | ⟨_,hb,y,d,e,es⟩
  ·by_cases hm:m.2=j
   ·subst hm
    rw[hc] at e;have ed:=Option.some.inj e;refine stay (u':=u) (v':=v) (w':=w++[y]) ?_;rw[es];show (s.tr.set m.2 (d++[y]))[m.2]?=_;rw[getElem?_set_self hj,<- ed];simp
   ·exact stay (by rw[es];exact other _ hm)
  ·by_cases hm:m.2=j
   ·subst hm
    rw[hc] at e;have ed:=Option.some.inj e;rw[if_pos hb];have hs':s'.tr[m.2]?=some d:=by rw[es];exact getElem?_set_self hj
    rcases List.eq_nil_or_concat w with rfl | ⟨w',x,rfl⟩
    ·
     have e2:u++a::v=d/\[b]=[y]:=by
      have:(u++a::v)++[b]=d++[y]:=ed;exact List.append_inj' this rfl
     have:y=b:=by simpa using e2.2.symm
     subst this;exact order (by rw[es]) hs' (by rw[<- e2.1];simp)
    ·have e2:u++a::v++b::w'=d:=by
      have:(u++a::v++b::w')++[x]=d++[y]:=by rw[<- ed];simp
      exact (List.append_inj' this rfl).1
     have:=stay (u':=u) (v':=v) (w':=w') (by rw[hs',e2]);rw[if_pos hb] at this;exact this
   ·exact stay (by rw[es];exact other _ hm)
  ·by_cases hm:m.2=j
   ·subst hm
    rw[hc] at e;have ed:=Option.some.inj e;have hbl:¬ bl=true:=by rw[hb];exact Bool.false_ne_true
    rw[if_neg hbl];have hs':s'.tr[m.2]?=some d:=by rw[es];exact getElem?_set_self hj
    cases u with
    | nil=>
     have e2:a=y/\v++b::w=d:=by simpa using ed
     exact order (y:=a) (by rw[es,e2.1]) hs' (by rw[<- e2.2];simp)
    | cons x u'=>
     have e2:x=y/\u'++a::v++b::w=d:=by simpa using ed
     have:=stay (u':=u') (v':=v) (w':=w) (by rw[hs',e2.2]);rw[if_neg hbl] at this;exact this
   ·exact stay (by rw[es];exact other _ hm)
def cm(ms:List Mv):List Nat:=(ms.filter (·.1)).map (·.2)
def cq(a b:List Mv):cm (a++b)=cm a++cm b:=by unfold cm;rw[List.filter_append,map_append]
def zL(t:Nat):cm [(true,t)]=[t]:=rfl
def nL(t:Nat):cm [(false,t)]=[]:=rfl
structure fY(T:List Int)(p:List Mv)(s:St):Prop where
 came:s.came=(cm p).length
 at_:∀(i:Nat) (a:Int) (t:Nat),T[i]?=some a->(cm p)[i]?=some t->a∈s.left\/∃c,s.tr[t]?=some c/\a∈c
def jF(T:List Int)(n:Nat):fY T [] (init n):=⟨rfl,λi a t _ h=>by simp[cm] at h⟩
def fY.step(P:fY T p s)(h:step T bl s m=some s')(hv:m.2<s.tr.length):fY T (p++[m]) s':=by
 obtain ⟨m1,m2⟩:=m;have moved:∀{c c':List Int} {l:List Int},s.tr[m2]?=some c->(∀a∈c,a∈c'\/a∈l)->(∀a∈s.left,a∈l)->∀(a:Int) (t:Nat),(a∈s.left\/∃c,s.tr[t]?=some c/\a∈c)->a∈l\/∃d,(s.tr.set m2 c')[t]?=some d/\a∈d:=λ{c c' l} hc hcc hl a t ha=>by
  rcases ha with ha | ⟨d,hd,ha⟩
  ·exact .inl (hl a ha)
  ·by_cases e:m2=t
   ·subst e
    rw[hc] at hd;cases hd;rcases hcc a ha with z | z
    ·exact .inr {c',getElem?_set_self hv,z}
    ·exact .inl z
   ·exact .inr ⟨d,by rw[getElem?_set_ne e];exact hd,ha⟩
 rcases ck h hv with ⟨h1,x,c,hx,hc,rfl⟩ | ⟨h1,_,x,c,hc,rfl⟩ | ⟨h1,_,x,c,hc,rfl⟩
 ·have h1':m1=true:=h1
  subst h1';refine ⟨by rw[cq,zL,length_append];show s.came+1=_;rw[P.came];rfl,λi a t hi ht=>?_⟩;rw[cq,zL] at ht;rcases lt_or_ge i (cm p).length with hlt | hge
  ·rw[getElem?_append_left hlt] at ht
   exact moved (l:=s.left) hc (λa ha=>.inl (mem_append_left _ ha)) (λa ha=>ha) a t (P.at_ i a t hi ht)
  ·rw[getElem?_append_right hge] at ht
   have e0:i-(cm p).length=0:=by
    cases q:i-(cm p).length with
    | zero=>rfl
    | succ n=>rw[q] at ht;simp at ht
   rw[e0] at ht;have et:m2=t:=by simpa using ht
   have ei:i=s.came:=by rw[P.came];omega
   have hx':T[s.came]?=some x:=hx;rw[ei,hx'] at hi;cases hi;subst et;exact .inr {_,getElem?_set_self hv,mem_append_right _ (mem_singleton.mpr rfl)}
 ·have h1':m1=false:=h1
  subst h1';refine ⟨by rw[cq,nL,append_nil];exact P.came,λi a t hi ht=>?_⟩;rw[cq,nL,append_nil] at ht;refine moved (l:=s.left++[x]) hc (λa ha=>?_) (λa ha=>mem_append_left _ ha) a t (P.at_ i a t hi ht);rcases mem_append.mp ha with z | z
  ·exact .inl z
  ·exact .inr (mem_append_right _ z)
 ·have h1':m1=false:=h1
  subst h1';refine ⟨by rw[cq,nL,append_nil];exact P.came,λi a t hi ht=>?_⟩;rw[cq,nL,append_nil] at ht;refine moved (l:=s.left++[x]) hc (λa ha=>?_) (λa ha=>mem_append_left _ ha) a t (P.at_ i a t hi ht);rcases mem_cons.mp ha with z | z
  ·exact .inr (by rw[z];simp)
  ·exact .inl z
def fY.steps:∀{p q:List Mv} {s st:St},fY T p s->steps T bl s q=some st->(∀m∈q,m.2<s.tr.length)->fY T (p++q) st
 | p,[],s,st,P,h,_=>by
  have e:s=st:=by simpa[Yd.steps] using h
  rw[append_nil,<- e];exact P
 | p,m::q,s,st,P,h,hv=>by
  obtain ⟨s',h1,h2⟩:=bN h;have:=fY.steps (P.step h1 (hv m mem_cons_self)) h2 (λm' hm=>by rw[cN h1];exact hv m' (mem_cons_of_mem _ hm));rw[append_assoc] at this;exact this
def lr:∀{ms:List Mv} {j t:Nat},(cm ms)[j]?=some t->∃p q,ms=p++(true,t)::q/\(cm p).length=j
 | [],j,t,h=>by simp[cm] at h
 | (true,t')::r,j,t,h=>by
  have e:cm ((true,t')::r)=t'::cm r:=rfl;rw[e] at h;cases j with
  | zero=>
   have:t'=t:=by simpa using h
   subst this;exact {[],r,rfl,rfl}
  | succ j=>
   obtain ⟨p,q,e1,e2⟩:=lr (ms:=r) (j:=j) (t:=t) (by simpa using h);exact ⟨(true,t')::p,q,by rw[e1];rfl,by show (t'::cm p).length=_;rw[length_cons,e2]⟩
 | (false,t')::r,j,t,h=>by
  have e:cm ((false,t')::r)=cm r:=rfl;rw[e] at h;obtain ⟨p,q,e1,e2⟩:=lr (ms:=r) (j:=j) (t:=t) h;exact ⟨(false,t')::p,q,by rw[e1];rfl,e2⟩
structure bt(T:List Int)(bl:Bool)(n:Nat)(ms:List Mv):Prop where
 valid:∀m∈ms,m.2<n
 ex:∃st,steps T bl (init n) ms=some st/\st.left.length=T.length/\st.left.Pairwise (· < ·)
def bt.cm_len(B:bt T bl n ms):(cm ms).length=T.length:=by
 obtain ⟨st,h,hl,hp⟩:=B.ex;have hv:∀m∈ms,m.2<(init n).tr.length:=λm hm=>by show m.2<(List.replicate n ([]:List Int)).length;rw[length_replicate];exact B.valid m hm
 have P:=(jF T n).steps h hv;rw[nil_append] at P;rw[<- P.came,(gQ h B.valid hl).came]
def bt.cm_lt{T:List Int}{bl:Bool}{n:Nat}{ms:List Mv}(B:bt T bl n ms){i t:Nat}(h:(cm ms)[i]?=some t):t<n:=by
 have hm:t∈cm ms:=mem_of_getElem? h;unfold cm at hm;obtain ⟨m,hm',rfl⟩:=mem_map.mp hm;exact B.valid m (List.mem_filter.mp hm').1
def bt.two{T:List Int}{bl:Bool}{n:Nat}{ms:List Mv}(B:bt T bl n ms){i j t:Nat}{a b:Int}(hij:i<j)(hi:T[i]?=some a)(hj:T[j]?=some b)(ci:(cm ms)[i]?=some t)(cj:(cm ms)[j]?=some t):
  (if bl=true then b<a else a<b)\/∀k x,j<=k->T[k]?=some x->a<x:=by
 obtain ⟨st,h,hl,hp⟩:=B.ex;have D:=gQ h B.valid hl;obtain ⟨p,q,rfl,hpl⟩:=lr cj;have hv0:∀m∈p,m.2<(init n).tr.length:=λm hm=>by show m.2<(List.replicate n ([]:List Int)).length;rw[length_replicate];exact B.valid m (mem_append_left _ hm)
 rw[bC] at h;cases e:steps T bl (init n) p with
 | none=>rw[e] at h;cases h
 | some s=>
  rw[e] at h;have h':steps T bl s ((true,t)::q)=some st:=h;have P:=(jF T n).steps e hv0;rw[nil_append] at P;have hlen:s.tr.length=n:=by rw[gP e];show (List.replicate n ([]:List Int)).length=n;rw[length_replicate]
  have hvq:∀m∈(true,t)::q,m.2<s.tr.length:=λm hm=>by rw[hlen];exact B.valid m (mem_append_right _ hm)
  have ci':(cm p)[i]?=some t:=by
   rw[cq,getElem?_append_left ()] at ci;exact ci
  rcases P.at_ i a t hi ci' with ha | ⟨c,hc,ha⟩
  ·right
   intro k x hk hx;obtain ⟨w,ew,hw⟩:=oW h' hvq D (k:=k) (x:=x) (by rw[P.came];omega) hx;rw[ew,pairwise_append] at hp;exact hp.2.2 a ha x hw
  ·left
   obtain ⟨s',h1,h2⟩:=bN h';have hvm:=hvq (true,t) mem_cons_self;rcases ck h1 hvm with ⟨_,x,d,hx,hd,es⟩ | ⟨z,_⟩ | ⟨z,_⟩
   ·have hd':s.tr[t]?=some d:=hd
    rw[hc] at hd';cases hd';rw[P.came,hpl,hj] at hx;cases hx;obtain ⟨u,v,rfl⟩:=List.append_of_mem ha;refine Cg (j:=t) (u:=u) (v:=v) (w:=[]) h2 (λm hm=>by rw[cN h1];exact hvq m (mem_cons_of_mem _ hm)) D hp ?_;rw[es];exact getElem?_set_self hvm
   ·cases z
   ·cases z
def bt.odds{T:List Int}{n:Nat}{ms:List Mv}(B:bt T true n ms){i j k t:Nat}{a b x:Int}(hij:i<j)(hjk:j<k)(hi:T[i]?=some a)(hj:T[j]?=some b)(hk:T[k]?=some x)(h1:x<a)(h2:a<b)(ci:(cm ms)[i]?=some t)(cj:(cm ms)[j]?=some t):False:=by
 rcases B.two hij hi hj ci cj with h | h
 ·have:b<a:=by simpa using h
  omega
 ·have:=h k x () hk
  omega
def bt.track{T:List Int}{bl:Bool}{n:Nat}{ms:List Mv}(B:bt T bl n ms){i:Nat}(h:i<T.length):∃t,(cm ms)[i]?=some t/\t<n:=by
 have hl:=B.cm_len;have:i<(cm ms).length:=()
 exact {_,List.getElem?_eq_getElem this,B.cm_lt (List.getElem?_eq_getElem this)}
def oX{c:Nat->Nat}{m:Nat}(h2:∀k,k<m->c k<2)(hd:∀k,k<m->c k≠c ((k+1)%m))(hodd:m%2=1)(h3:1<m):False:=by
 have key:∀k,k<m->c k=(c 0+k)%2:=by
  intro k
  induction k with
  | zero=>intro h;have:=h2 0 h;omega
  | succ k ih=>
   intro h;have e:=ih ();have d:=hd k ();rw[Nat.mod_eq_of_lt h] at d;have a1:=h2 k ();have a2:=h2 (k+1) h;omega
 have e:=key (m-1) ();have d:=hd (m-1) ();rw[show m-1+1=m by omega,Nat.mod_self] at d;have a:=h2 0 ();omega
def fZ(T:List Int)(p q r:Nat):Prop:=min p q<max p q/\max p q<r/\r<T.length/\T.getD r 0<T.getD (min p q) 0/\T.getD (min p q) 0<T.getD (max p q) 0
def bt.no_odd{T:List Int}{ms:List Mv}(B:bt T true 2 ms){ps sh:Nat->Nat}{m:Nat}(hodd:m%2=1)(h3:1<m)(h:∀k,k<m->fZ T (ps k) (ps ((k+1)%m)) (sh k)):False:=by
 have hb:∀k,k<m->ps k<T.length:=λk hk=>by
  obtain ⟨a,b,c,_⟩:=h k hk;omega
 refine oX (c:=λk=>(cm ms).getD (ps k) 0) (m:=m) (λk hk=>?_) (λk hk z=>?_) hodd h3
 ·obtain ⟨t,e1,ht⟩:=B.track (hb k hk)
  show (cm ms).getD (ps k) 0<2;rw[getD_eq_getElem?_getD,e1];exact ht
 ·obtain ⟨a,b,c,d,e⟩:=h k hk
  have hk':(k+1)%m<m:=Nat.mod_lt _ ();obtain ⟨t,e1,_⟩:=B.track (hb k hk);obtain ⟨t',e2,_⟩:=B.track (hb _ hk');have z':(cm ms).getD (ps k) 0=(cm ms).getD (ps ((k+1)%m)) 0:=z;rw[getD_eq_getElem?_getD,getD_eq_getElem?_getD,e1,e2] at z';have z2:t=t':=z';subst z2;have g:∀p,p<T.length->T[p]?=some (T.getD p 0):=λp hp=>by rw[getD_eq_getElem?_getD,List.getElem?_eq_getElem hp];rfl
  have c1:(cm ms)[min (ps k) (ps ((k+1)%m))]?=some t:=by
   rcases Nat.le_total (ps k) (ps ((k+1)%m)) with z | z
   ·rw[min_eq_left z];exact e1
   ·rw[min_eq_right z];exact e2
  have c2:(cm ms)[max (ps k) (ps ((k+1)%m))]?=some t:=by
   rcases Nat.le_total (ps k) (ps ((k+1)%m)) with z | z
   ·rw[Nat.max_eq_right z];exact e2
   ·rw[Nat.max_eq_left z];exact e1
  exact B.odds a b (g _ ()) (g _ ()) (g _ c) d e c1 c2
def St.map(f:Int->Int)(s:St):St:=⟨s.tr.map (List.map f),s.left.map f,s.came⟩
def vJ(f:Int->Int)(s:St)(m:Mv):step (T.map f) bl (s.map f) m=(step T bl s m).map (St.map f):=by
 have hD:(s.tr.map (List.map f)).getD m.2 []=(s.tr.getD m.2 []).map f:=by
  rw[getD_eq_getElem?_getD,getD_eq_getElem?_getD,getElem?_map];cases s.tr[m.2]?<;>rfl
 unfold step;show (if m.1=true then _ else _)=_
 split
 ·show (match (T.map f)[s.came]? with | some x=>_ | none=>_)=_
  rw[getElem?_map];cases T[s.came]? with
  | none=>rfl
  | some x=>
   show some (St.mk ((s.tr.map (List.map f)).set m.2 ((s.tr.map (List.map f)).getD m.2 []++[f x])) (s.left.map f) (s.came+1))=some (St.map f ⟨s.tr.set m.2 (s.tr.getD m.2 []++[x]),s.left,s.came+1⟩);unfold St.map;rw[hD,map_set,map_append];rfl
 ·split
  ·show (match ((s.tr.map (List.map f)).getD m.2 []).getLast? with | some x=>_ | none=>_)=_
   rw[hD,List.getLast?_map];cases (s.tr.getD m.2 []).getLast? with
   | none=>rfl
   | some x=>
    show some (St.mk ((s.tr.map (List.map f)).set m.2 ((s.tr.map (List.map f)).getD m.2 []).dropLast) (s.left.map f++[f x]) s.came)=some (St.map f ⟨s.tr.set m.2 (s.tr.getD m.2 []).dropLast,s.left++[x],s.came⟩);unfold St.map;rw[hD,map_set,map_append,map_dropLast];rfl
  ·show (match (s.tr.map (List.map f)).getD m.2 [] with | x::r=>_ | []=>_)=_
   rw[hD];cases s.tr.getD m.2 [] with
   | nil=>rfl
   | cons x r=>
    show some (St.mk ((s.tr.map (List.map f)).set m.2 (r.map f)) (s.left.map f++[f x]) s.came)=some (St.map f ⟨s.tr.set m.2 r,s.left++[x],s.came⟩);unfold St.map;rw[map_set,map_append];rfl
def mT(f:Int->Int):∀(s:St) (ms:List Mv),steps (T.map f) bl (s.map f) ms=(steps T bl s ms).map (St.map f)
 | s,[]=>rfl
 | s,m::r=>by
  show (step (T.map f) bl (s.map f) m).bind (λs'=>steps (T.map f) bl s' r)=((step T bl s m).bind λs'=>steps T bl s' r).map (St.map f);rw[vJ];cases step T bl s m with
  | none=>rfl
  | some s'=>exact mT f s' r
def vK(f:Int->Int)(n:Nat):(init n).map f=init n:=by
 unfold init St.map;rw[map_replicate];rfl
def dY:∀{l m:List Int},l.Nodup->(∀x∈l,x∈m)->m.length<=l.length->m.Perm l
 | [],m,_,_,h=>by
  have:m=[]:=List.length_eq_zero_iff.mp (by simpa using h);rw[this]
 | a::r,m,hn,hs,h=>by
  have ha:a∈m:=hs a mem_cons_self;have hn':=nodup_cons.mp hn;have p1:m.Perm (a::m.erase a):=List.perm_cons_erase ha;have hl:(m.erase a).length<=r.length:=by
   rw[List.length_erase_of_mem ha];simp only[length_cons] at h;omega
  have p2:=dY (m:=m.erase a) hn'.2 (λx hx=>by
   have hne:x≠a:=λz=>hn'.1 (z▸hx);exact (List.mem_erase_of_ne hne).mpr (hs x (mem_cons_of_mem _ hx))) hl
  exact p1.trans (List.Perm.cons a p2)
def R(n:Nat):List Int:=(List.range n).map λ(i:Nat)=>(i:Int)
def lu(n:Nat):(R n).length=n:=by unfold R;rw[length_map,length_range]
def vL(h:i<n):(R n)[i]?=some (i:Int):=by
 unfold R;rw[getElem?_map,getElem?_range h];rfl
def Ch(n:Nat):(R n).Pairwise (· < ·):=by
 unfold R;rw[pairwise_map];exact List.Pairwise.imp (λh=>()) List.pairwise_lt_range
def km(n:Nat):(R n).Nodup:=List.Pairwise.imp (λh=>Int.ne_of_lt h) (Ch n)
def Ci(h:x∈R n):0<=x/\x<n:=by
 unfold R at h;obtain ⟨i,hi,rfl⟩:=mem_map.mp h;have:=mem_range.mp hi;omega
def oY:∀{c:List Int} {s:St} {j:Nat},s.tr[j]?=some c->steps T true s (List.replicate c.length (false,j))=some ⟨s.tr.set j [],s.left++c.reverse,s.came⟩:=by
 intro c;generalize hn:c.length=n
 induction n generalizing c with
 | zero=>
  intro s j h;have:c=[]:=List.length_eq_zero_iff.mp hn;subst this;have hj:=(List.getElem?_eq_some_iff.mp h);show some s=_;rw[List.reverse_nil,append_nil];have e:s.tr.set j []=s.tr:=by
   refine ext_getElem? λi=>?_
   by_cases hi:j=i
   ·subst hi
    rw[getElem?_set_self hj.1,h]
   ·rw[getElem?_set_ne hi]
  rw[e]
 | succ n ih=>
  intro s j h;have hne:c≠[]:=λz=>by rw[z] at hn;cases hn
  have ec:=List.dropLast_concat_getLast hne;have hj:=(List.getElem?_eq_some_iff.mp h).1;have hs:step T true s (false,j)=some ⟨s.tr.set j c.dropLast,s.left++[c.getLast hne],s.came⟩:=by
   unfold step;rw[if_neg Bool.false_ne_true,if_pos rfl];have hD:s.tr.getD j []=c:=by rw[getD_eq_getElem?_getD,h];rfl
   simp only[hD];rw[List.getLast?_eq_some_getLast hne]
  rw[replicate_succ];show (step T true s (false,j)).bind (λs'=>steps T true s' (List.replicate n (false,j)))=_;rw[hs];show steps T true _ _=_;rw[ih (c:=c.dropLast) (by rw[length_dropLast,hn];rfl) (j:=j) (s:=⟨s.tr.set j c.dropLast,s.left++[c.getLast hne],s.came⟩) (getElem?_set_self hj)];show some (St.mk ((s.tr.set j c.dropLast).set j []) (s.left++[c.getLast hne]++c.dropLast.reverse) s.came)=_;rw[List.set_set,append_assoc];congr 3
  conv=>rhs;rw[<- ec]
  rw[List.reverse_append];rfl
def h9:∀{c:List Int} {s:St} {j:Nat},s.tr[j]?=some c->steps T false s (List.replicate c.length (false,j))=some ⟨s.tr.set j [],s.left++c,s.came⟩
 | [],s,j,h=>by
  have hj:=(List.getElem?_eq_some_iff.mp h);show some s=_;rw[append_nil];have e:s.tr.set j []=s.tr:=by
   refine ext_getElem? λi=>?_
   by_cases hi:j=i
   ·subst hi
    rw[getElem?_set_self hj.1,h]
   ·rw[getElem?_set_ne hi]
  rw[e]
 | x::c,s,j,h=>by
  have hj:=(List.getElem?_eq_some_iff.mp h).1;have hs:step T false s (false,j)=some ⟨s.tr.set j c,s.left++[x],s.came⟩:=by
   unfold step;rw[if_neg Bool.false_ne_true,if_neg Bool.false_ne_true];have hD:s.tr.getD j []=x::c:=by rw[getD_eq_getElem?_getD,h];rfl
   simp only[hD]
  rw[length_cons,replicate_succ];show (step T false s (false,j)).bind (λs'=>steps T false s' (List.replicate c.length (false,j)))=_;rw[hs];show steps T false _ _=_;rw[h9 (c:=c) (j:=j) (s:=⟨s.tr.set j c,s.left++[x],s.came⟩) (getElem?_set_self hj)];show some (St.mk ((s.tr.set j c).set j []) (s.left++[x]++c) s.came)=_;rw[List.set_set,append_assoc];rfl
def clear(h:s.tr[j]?=some c):steps T bl s (List.replicate c.length (false,j))=some ⟨s.tr.set j [],s.left++(if bl=true then c.reverse else c),s.came⟩:=by
 cases bl with
 | true=>exact oY h
 | false=>exact h9 h
def gb(h1:steps T bl s a=some s')(h2:steps T bl s' b=some s''):steps T bl s (a++b)=some s'':=by
 rw[bC,h1];exact h2
def ue{st:St}(h:steps (R n) bl (init k) ms=some st)(hv:∀m∈ms,m.2<k)(hl:st.left.length=n):st.left.Perm (R n):=by
 have D:=gQ h hv (by rw[hl,lu]);refine dY (km n) (λx hx=>?_) (by rw[lu,hl];exact Nat.le_refl _);obtain ⟨i,hi,e⟩:=mem_iff_getElem.mp hx;obtain ⟨w,ew,hw⟩:=oW h (λm hm=>by show m.2<(List.replicate k ([]:List Int)).length;rw[length_replicate];exact hv m hm) D (k:=i) (x:=x) (zero_le _) (by rw[List.getElem?_eq_getElem hi,e]);rw[ew];exact mem_append_right _ hw
def vM(n:Nat):((List.replicate n ([]:List Int)).map List.length).sum=0:=by
 rw[map_replicate];simp
def yA{tr:List (List Int)}{j:Nat}(h:j<tr.length):(List.replicate j ([]:List Int)++tr.drop j).set j []=List.replicate (j+1) []++tr.drop (j+1):=by
 rw[List.set_append_right _ _ (by rw[length_replicate];exact Nat.le_refl _),length_replicate,sub_self,List.drop_eq_getElem_cons h,List.set_cons_zero,replicate_succ',append_assoc];rfl
def oZ{st:St}(h:steps (R n) bl (init k) ms=some st)(hv:∀m∈ms,m.2<k)(hl:st.left.length=n)(hT:T.length=n)
  (hat:∀(j:Nat) (x:Int),st.left[j]?=some x->T[x.toNat]?=some (j:Int)):bt T bl k ms/\T.Perm (R n):=by
 have D:=gQ h hv (by rw[hl,lu]);have all:∀x∈R n,x∈st.left:=λx hx=>by
  obtain ⟨i,hi,e⟩:=mem_iff_getElem.mp hx;obtain ⟨w,ew,hw⟩:=oW h (λm hm=>by show m.2<(List.replicate k ([]:List Int)).length;rw[length_replicate];exact hv m hm) D (k:=i) (x:=x) (zero_le _) (by rw[List.getElem?_eq_getElem hi,e]);rw[ew];exact mem_append_right _ hw
 have hp:st.left.Perm (R n):=dY (km n) all (by rw[lu,hl];exact Nat.le_refl _);have e1:(R n).map (λx=>T.getD x.toNat 0)=T:=by
  refine ext_getElem? λi=>?_;rw[getElem?_map]
  by_cases hi:i<n
  ·rw[vL hi]
   show some (T.getD (i:Int).toNat 0)=T[i]?;rw[toNat_natCast,getD_eq_getElem?_getD,List.getElem?_eq_getElem ()];rfl
  ·rw[getElem?_eq_none_iff.mpr (by rw[lu];omega),getElem?_eq_none_iff.mpr ()]
   rfl
 have e2:st.left.map (λx=>T.getD x.toNat 0)=R n:=by
  refine ext_getElem? λj=>?_;rw[getElem?_map]
  by_cases hj:j<n
  ·obtain ⟨x,hx⟩:∃x,st.left[j]?=some x:=⟨_,List.getElem?_eq_getElem ()⟩
   rw[hx,vL hj];show some (T.getD x.toNat 0)=_;rw[getD_eq_getElem?_getD,hat j x hx];rfl
  ·rw[getElem?_eq_none_iff.mpr (),getElem?_eq_none_iff.mpr (by rw[lu];omega)]
   rfl
 have h2:=mT (T:=R n) (bl:=bl) (λx=>T.getD x.toNat 0) (init k) ms;rw[h,vK,e1] at h2;refine {{hv,st.map _,h2,?_,?_},?_}
 ·show (st.left.map _).length=T.length
  rw[length_map,hl,hT]
 ·show (st.left.map _).Pairwise _
  rw[e2];exact Ch n
 ·have:=hp.map (λx=>T.getD x.toNat 0)
  rw[e1,e2] at this;exact this.symm
end Yd
namespace My
open PySem L2
open PySem.W (Dat)
abbrev Gm:=Str×Int
def gmv(n:Nat)(g:Gm):Option Yd.Mv:=if 0<=g.2/\g.2<n then (if g.1=Str.ofString "in" then some (true,g.2.toNat) else if g.1=Str.ofString "out" then some (false,g.2.toNat) else none) else none
def aQ(T:List Int)(b:Bool)(n:Nat)(s:Yd.St)(g:Gm):Option Yd.St:=(gmv n g).bind λm=>Yd.step T b s m
def aP(T:List Int)(b:Bool)(n:Nat):Yd.St->List Gm->Option Yd.St
 | s,[]=>some s
 | s,g::r=>(aQ T b n s g).bind λs'=>aP T b n s' r
def cH:∀{s:Yd.St} {x y:List Gm},aP T b n s (x++y)=(aP T b n s x).bind λs'=>aP T b n s' y
 | s,[],y=>rfl
 | s,g::x,y=>by
  show (aQ T b n s g).bind (λs'=>aP T b n s' (x++y))=((aQ T b n s g).bind λs'=>aP T b n s' x).bind λs'=>aP T b n s' y;cases e:aQ T b n s g with
  | none=>rfl
  | some s'=>exact cH
def jG{T:List Int}{b:Bool}{n:Nat}{s s' s'':Yd.St}{gs:List Gm}{i:Nat}{g:Gm}(h:aP T b n s (gs.take i)=some s')(hg:gs[i]?=some g)(h2:aQ T b n s' g=some s''):aP T b n s (gs.take (i+1))=some s'':=by
 rw[aJ hg,cH,h];show (aQ T b n s' g).bind (λs=>some s)=_;rw[h2];rfl
def nM(h:aP T b n s (gs.take i)=some s')(hg:gs[i]?=some g)(h2:aQ T b n s' g=none):aP T b n s gs=none:=by
 have hi:=(List.getElem?_eq_some_iff.mp hg);have e:gs=gs.take i++g::gs.drop (i+1):=by
  conv=>lhs;rw[<- List.take_append_drop i gs]
  rw[List.drop_eq_getElem_cons hi.1,hi.2]
 rw[e,cH,h];show (aQ T b n s' g).bind _=none;rw[h2];rfl
def uf(h:aQ T b n s g=some s'):s'.tr.length=s.tr.length:=by
 unfold aQ at h;cases e:gmv n g with
 | none=>rw[e] at h;cases h
 | some m=>rw[e] at h;exact Yd.cN h
def lw:∀{s s':Yd.St} {gs:List Gm},aP T b n s gs=some s'->s'.tr.length=s.tr.length
 | s,s',[],h=>by
  have e:s=s':=by simpa[aP] using h
  rw[e]
 | s,s',g::r,h=>by
  have h1:(aQ T b n s g).bind (λs''=>aP T b n s'' r)=some s':=h;cases e:aQ T b n s g with
  | none=>rw[e] at h1;cases h1
  | some s1=>rw[e] at h1;rw[lw h1,uf e]
def A9(h:gmv n g=some m):m.2<n:=by
 unfold gmv at h
 split at h
 ·rename_i hr
  split at h
  ·cases h;show g.2.toNat<n;omega
  ·split at h
   ·cases h;show g.2.toNat<n;omega
   ·cases h
 ·cases h
def dg:∀{s s':Yd.St} {gs:List Gm},aP T b n s gs=some s'->∃ms,Yd.steps T b s ms=some s'/\(∀m∈ms,m.2<n)/\ms.length=gs.length
 | s,s',[],h=>⟨[],h,λm hm=>by (cases hm),rfl⟩
 | s,s',g::r,h=>by
  have h1:(aQ T b n s g).bind (λs''=>aP T b n s'' r)=some s':=h;cases e:aQ T b n s g with
  | none=>rw[e] at h1;cases h1
  | some s1=>
   rw[e] at h1;obtain ⟨ms,a1,a2,a3⟩:=dg h1;unfold aQ at e;cases em:gmv n g with
   | none=>rw[em] at e;cases e
   | some m=>
    rw[em] at e;refine ⟨m::ms,?_,λx hx=>?_,by rw[length_cons,length_cons,a3]⟩
    ·show (Yd.step T b s m).bind (λs''=>Yd.steps T b s'' ms)=some s'
     rw[show Yd.step T b s m=some s1 from e];exact a1
    ·rcases mem_cons.mp hx with rfl | z
     ·exact A9 em
     ·exact a2 x z
def gOf(m:Yd.Mv):Gm:=(ft m.1,(m.2:Int))
def vN(h:m.2<n):gmv n (gOf m)=some m:=by
 obtain ⟨m1,m2⟩:=m;unfold gmv gOf;rw[if_pos ⟨by show (0:Int)<=(m2:Int);omega,by show (m2:Int)<n;have h':m2<n:=h;omega⟩];cases m1 with
 | true=>
  rw[if_pos (show ft true=Str.ofString "in" from rfl)];show some (true,(m2:Int).toNat)=_;rw[toNat_natCast]
 | false=>
  rw[if_neg (show ¬ ft false=Str.ofString "in" from by decide +kernel),if_pos (show ft false=Str.ofString "out" from rfl)];show some (false,(m2:Int).toNat)=_;rw[toNat_natCast]
def jl:∀{s:Yd.St} {ms:List Yd.Mv},(∀m∈ms,m.2<n)->aP T b n s (ms.map gOf)=Yd.steps T b s ms
 | s,[],_=>rfl
 | s,m::r,h=>by
  show (aQ T b n s (gOf m)).bind (λs'=>aP T b n s' (r.map gOf))=(Yd.step T b s m).bind λs'=>Yd.steps T b s' r;unfold aQ;rw[vN (h m mem_cons_self)];show (Yd.step T b s m).bind _=_;cases Yd.step T b s m with
  | none=>rfl
  | some s'=>exact jl λx hx=>h x (mem_cons_of_mem _ hx)
def GmT(H:Hp)(r:Addr)(g:Gm):Prop:=H r=some (.tup [.str g.1,.int g.2])
def bX(H:Hp)(a:Addr)(gs:List Gm):Prop:=∃rs:List Addr,H a=some (.lst (rs.map V.ref))/\Paired (GmT H) rs gs
def GmT.same(s:ag H H')(h:GmT H r g):GmT H' r g:=s _ _ h
def bX.same(s:ag H H')(h:bX H a gs):bX H' a gs:=
 let ⟨rs,e,p⟩:=h;⟨rs,s _ _ e,Paired.imp (λ_ _ z=>z.same s) p⟩
def bg.g(h:bg H a ms):bX H a (ms.map gOf):=by
 obtain ⟨rs,e,p⟩:=h;refine {rs,e,?_};clear e
 induction p with
 | nil=>exact .nil
 | cons h t ih=>exact .cons h ih
def fK(m:Int):Int->List Int->Bool
 | _,[]=>true
 | last,p::r=>decide (last<p)&&decide (p<m)&&fK m p r
def jH:∀{last:Int} {ps:List Int},fK m last ps=true↔(last::ps).Pairwise (· < ·)/\∀p∈ps,p<m
 | last,[]=>by simp[fK]
 | last,p::r=>by
  unfold fK;rw[Bool.and_eq_true,Bool.and_eq_true,decide_eq_true_iff,decide_eq_true_iff,jH (last:=p) (ps:=r)]
  constructor
  ·rintro ⟨⟨h1,h2⟩,h3,h4⟩
   refine {?_,λq hq=>?_}
   ·rw[pairwise_cons]
    refine {λq hq=>?_,h3};rcases mem_cons.mp hq with rfl | z
    ·exact h1
    ·have:=(pairwise_cons.mp h3).1 q z;omega
   ·rcases mem_cons.mp hq with rfl | z
    ·exact h2
    ·exact h4 q z
  ·rintro ⟨h1,h2⟩
   have h3:=pairwise_cons.mp h1;exact {{h3.1 p mem_cons_self,h2 p mem_cons_self},h3.2,λq hq=>h2 q (mem_cons_of_mem _ hq)}
def lx(h:fK m last (ps.take i)=true)(hp:ps[i]?=some p):fK m last ps=(decide (((ps.take i).getLast?.getD last)<p)&&decide (p<m)&&fK m p (ps.drop (i+1))):=by
 induction ps generalizing last i with
 | nil=>simp at hp
 | cons q r ih=>
  cases i with
  | zero=>
   have:q=p:=by simpa using hp
   subst this;rfl
  | succ i=>
   rw[List.take_succ_cons] at h;unfold fK at h;rw[Bool.and_eq_true] at h;have hr:=ih (last:=q) (i:=i) h.2 (by simpa using hp)
   conv=>lhs;unfold fK
   rw[h.1,Bool.true_and,hr,List.take_succ_cons,List.drop_succ_cons];congr 3;cases hq:(r.take i) with
   | nil=>rfl
   | cons a l=>
    rw[List.getLast?_cons_cons,List.getLast?_eq_some_getLast (by simp)];rfl
def ug{l:List Int}{i j:Nat}{a b:Int}(hi:l[i]?=some a)(hj:l[j]?=some b):((l.set i b).set j a).Perm l:=by
 have h1:=List.getElem?_eq_some_iff.mp hi;have h2:=List.getElem?_eq_some_iff.mp hj;have e:=Array.swap_perm (xs:=l.toArray) (i:=i) (j:=j) (by simpa using h1.1) (by simpa using h2.1);have e':=e.toList;have q:(l.toArray.swap i j (by simpa using h1.1) (by simpa using h2.1)).toList=(l.set i b).set j a:=by
  rw[Array.toList_swap];simp[h1.2,h2.2]
 rw[q] at e';exact e'
end My
namespace L2
open PySem PySem.Spec PyProof.Rows
section
variable {X:Cx} {K:PySem.W.Frag}
inductive se  (xs:List V) (H:Hp) (Q:VK):Prop
 | mk (i j:Int):(xs=[.int j]/\i=0\/xs=[.int i,.int j])->(∀r,H r=none->Q (.ref r) (upd H r (.rng i j)))->se  xs H Q
def jI:aV X (.type "range") se:=by
 intro pins s σ H xs us Q I r h;obtain ⟨i,j,e,q⟩:=h;rcases e with ⟨rfl,rfl⟩ | rfl
 ·obtain ⟨u,rfl,ru⟩:=eM r
  obtain ⟨t,rfl⟩:=ru;refine call_range_1 {.ref s.heap.objs.size,_,I.laid (o:=.rng 0 j) (λb o e=>get?_push_of_some _ e) (Nat.le_refl _) {_,_,_,get?_push_size _ rfl},rfl,q _ (I.hok.fresh (Nat.le_refl _))}
 ·obtain ⟨u,w',rfl,ru,rw'⟩:=ow r
  obtain ⟨t,rfl⟩:=ru;obtain ⟨t',rfl⟩:=rw';refine call_range_2 {.ref s.heap.objs.size,_,I.laid (o:=.rng i j) (λb o e=>get?_push_of_some _ e) (Nat.le_refl _) {_,_,_,get?_push_size _ rfl},rfl,q _ (I.hok.fresh (Nat.le_refl _))}
def o0(lo hi:Int):List V:=(List.range (hi-lo).toNat).map λ(i:Nat)=>V.int (lo+(i:Int))
def lZ{lo:Int}:∀{n:Nat} {acc:List Value},acc.length=n->(∀(j:Nat) (v:Value),acc[j]?=some v->∃t,v=.int (lo+(j:Int)) t)->aq ((List.range n).map λ(i:Nat)=>V.int (lo+(i:Int))) acc:=by
 intro n acc hl hv;have h:∀(k:Nat) (acc:List Value),(∀(j:Nat) (v:Value),acc[j]?=some v->∃t,v=.int (lo+((k+j:Nat):Int)) t)->aq ((List.range acc.length).map λ(i:Nat)=>V.int (lo+((k+i:Nat):Int))) acc:=by
  intro k acc
  induction acc generalizing k with
  | nil=>intro _;exact .nil
  | cons a r ih=>
   intro hv;rw[length_cons,List.range_succ_eq_map,map_cons,map_map];refine .cons ?_ ?_
   ·obtain ⟨t,e⟩:=hv 0 a rfl
    exact ⟨t,by simpa using e⟩
   ·have:=ih (k+1) λj v e=>by
     obtain ⟨t,e'⟩:=hv (j+1) v (by simpa using e);exact ⟨t,by rw[e'];congr 2;omega⟩
    have e2:(List.range r.length).map (λ(i:Nat)=>V.int (lo+((k+1+i:Nat):Int)))=(List.range r.length).map ((λ(i:Nat)=>V.int (lo+((k+i:Nat):Int)))∘Nat.succ):=by
     refine List.map_congr_left λi _=>?_;show V.int _=V.int _;congr 2;omega
    rw[e2] at this;exact this
 have:=h 0 acc λj v e=>by simpa using hv j v e
 rw[hl] at this
 simpa using this
inductive qC  (xs:List V) (H:Hp) (Q:VK):Prop
 | mk (r:Addr) (lo hi:Int):xs=[.ref r]->H r=some (.rng lo hi)->-1000000<=lo->lo<=1000000->-1000000<=hi->hi<=1000000->(∀l,H l=none->Q (.ref l) (upd H l (.lst (o0 lo hi))))->qC  xs H Q
def qD(hc:X.calm=true):aV X (.type "list") qC:=by
 intro pins s σ H xs us Q I r h;obtain ⟨a,lo,hi,rfl,hr,h1,h2,h3,h4,q⟩:=h;obtain ⟨u,rfl,ru⟩:=eM r;cases ru;obtain ⟨t,u,v,e⟩:=(show aE X.prog X.w H s.heap a (.rng lo hi) from I.hok a _ hr);have hn:Builtin.Range.rangeSize lo hi 1=((hi-lo).toNat:Int):=by rw[rangeSize_one];split<;>omega
 refine call_list_range (a:=lo) (b:=hi) (c:=1) (I.ok.hd hc) e (small_one () () () ()) hn () λh' tk acc' c' hk hS' hacc=>?_;have hv:aq (o0 lo hi) acc'.toList:=by
  refine lZ (by rw[length_toList];exact hacc.1) λj v e=>?_;obtain ⟨t,e'⟩:=hacc.2 j v (by simpa using e);exact ⟨t,by simpa using e'⟩
 refine {.ref s.heap.objs.size,_,I.laid (t':=tk) (o:=.lst (o0 lo hi)) hk (Nat.le_refl _) ⟨?_,acc'.toList,c',hv,by simpa using hS'⟩,rfl,q _ (I.hok.fresh (Nat.le_refl _))};rw[hv.length,length_toList,hacc.1,sizeLine_eq];omega
def o4(hK:X.K=K)(hc:X.calm=true):aV X (.type "list") (λxs H Q=>(∃p ys,xs=[.ref p]/\(SqL K H p ys\/SqT K H p ys)/\∀l,H l=none->Q (.ref l) (upd H l (.lst ys)))\/qC xs H Q):=by
 subst hK;exact aV.or iO (qD hc)
def mU:∀{ns:List Int},(∀x∈ns,x.natAbs<2^20)->PyData.canLayAll0 (ns.map .int)=true/\PyData.depthAll (ns.map .int)=0/\PyData.weightAll (ns.map .int)<=21*ns.length
 | [],_=>⟨rfl,rfl,Nat.le_refl _⟩
 | a::r,h=>by
  obtain ⟨h1,h2,h3⟩:=mU (ns:=r) λx hx=>h x (mem_cons_of_mem _ hx);have ha:=h a mem_cons_self;have hw:PyData.weight (.int a)<=20:=by
   unfold PyData.weight
   by_cases e:(a==0)=true
   ·rw[if_pos e];exact zero_le _
   ·rw[if_neg e]
    have hne:a.natAbs≠0:=λz=>e (by simpa using Int.natAbs_eq_zero.mp z);exact (Nat.log2_lt hne).mpr ha
  refine {?_,?_,?_}
  ·show (PyData.canLay0 (.int a)&&PyData.canLayAll0 (r.map .int))=true
   rw[h1];rfl
  ·show max (PyData.depth (.int a)) (PyData.depthAll (r.map .int))=0
   rw[h2];rfl
  ·show PyData.weight (.int a)+1+PyData.weightAll (r.map .int)<=21*(r.length+1)
   omega
def vO{ns:List Int}(h:∀x∈ns,x.natAbs<2^20)(hz:ns.length<=40000):PyData.layable0 (.list (ns.map .int))=true:=by
 obtain ⟨h1,h2,h3⟩:=mU h;unfold PyData.layable0;have e1:PyData.canLay0 (.list (ns.map .int))=true:=h1;have e2:PyData.depth (.list (ns.map .int))=1:=by
  show PyData.depthAll (ns.map .int)+1=1;rw[h2]
 have e3:PyData.weight (.list (ns.map .int))<=2^20:=by
  show PyData.weightAll (ns.map .int)<=2^20;omega
 rw[e1,e2,decide_eq_true e3];rfl
inductive vP(K:PySem.W.Frag)(x:V)(vs:List V)(H:Hp)(Q:VK):Prop
 | mk (l:Addr) (ns:List Int) (k:Int):x=.ref l->vs=[.int k]->SqL K H l (ns.map V.int)->ns.length<=40000->(∀x∈ns,x.natAbs<2^20)->k∈ns->Q (.int (ns.idxOf k:Nat)) H->vP K x vs H Q
def o5(hK:X.K=K):MtM X "list.index" (vP K):=by
 subst hK;intro pins s σ H x vs v us Q I rx rv h;obtain ⟨l,ns,k,rfl,rfl,hq,hz,hb,hk,q⟩:=h;cases rx;obtain ⟨u,rfl,ru⟩:=rv.one;obtain ⟨t,rfl⟩:=ru;obtain ⟨its,r,pl,_⟩:=I.list hq;refine index_list_ints pl.isList (fm r) (vO hb hz) hk {.int _,H,I.tok _,{_,rfl},q}
end
structure yB(K:PySem.W.Frag)(C:Addr):Prop where
 ha:PySem.W.findIn K (.ref C) "__class__"=some (some (.builtin "object.__class__"))
 hn:PySem.W.specialIn K (.builtin "object.__class__") "__get__"=some (some (.builtin "getset_descriptor.__get__"))
 htk:PySem.W.takesIn K (.builtin "object.__class__")=some true
 hm:PySem.W.mroIn K C (.type "object")=some true
def sf:bootBuiltins ("range":Str)=some (.type "range"):=by decide +kernel
def yB.ty{K:PySem.W.Frag}{C p dx:Addr}{H:Hp}{fs:List (Str×V)}(i:yB K C)(cl:Cls K C)(e:H p=some (.ins C dx fs)):fU K H (.ref p) (.ref C):=.ins e cl i.ha i.hn i.htk i.hm
end L2
namespace My
open PySem L2
open PySem.W (Dat)
def bu(T:List Int)(b:Bool)(n:Nat)(gs:List Gm):Bool:=match aP T b n (Yd.init n) gs with
 | some st=>decide (st.left.length=T.length)&&decide (st.left.Pairwise (· < ·))
 | none=>false
def nN(h:bu T b n gs=true):∃ms,Yd.bt T b n ms:=by
 unfold bu at h
 split at h
 ·rename_i st e
  rw[Bool.and_eq_true,decide_eq_true_iff,decide_eq_true_iff] at h;obtain ⟨ms,h1,h2,_⟩:=dg e;exact ⟨ms,h2,st,h1,h.1,h.2⟩
 ·cases h
def nO{st:Yd.St}(hT:T.Nodup)(h:Yd.steps T b (Yd.init n) ms=some st)(hv:∀m∈ms,m.2<n)(hl:st.left.length=T.length):st.left.Perm T:=by
 have D:=Yd.gQ h hv hl;refine Yd.dY hT (λx hx=>?_) (by rw[hl];exact Nat.le_refl _);obtain ⟨i,hi,e⟩:=mem_iff_getElem.mp hx;obtain ⟨w,ew,hw⟩:=Yd.oW h (λm hm=>by show m.2<(List.replicate n ([]:List Int)).length;rw[length_replicate];exact hv m hm) D (k:=i) (x:=x) (zero_le _) (by rw[List.getElem?_eq_getElem hi,e]);rw[ew];exact mem_append_right _ hw
def ic:∀{l m:List Int},l.Pairwise (· <= ·)->m.Pairwise (· <= ·)->l.Perm m->l=m
 | [],m,_,_,h=>by rw[List.nil_perm.mp h]
 | a::l,m,h1,h2,h=>by
  cases m with
  | nil=>exact absurd h.symm.length_eq (by simp)
  | cons b m=>
   have p1:=pairwise_cons.mp h1;have p2:=pairwise_cons.mp h2;have hab:a<=b:=by
    rcases mem_cons.mp (h.mem_iff.mpr (mem_cons_self (a:=b) (l:=m))) with z | z
    ·omega
    ·exact p1.1 b z
   have hba:b<=a:=by
    rcases mem_cons.mp (h.mem_iff.mp (mem_cons_self (a:=a) (l:=l))) with z | z
    ·omega
    ·exact p2.1 a z
   have e:a=b:=()
   subst e;rw[ic p1.2 p2.2 (List.Perm.cons_inv h)]
def uh{l:List Int}(h:l.Pairwise (· <= ·))(hn:l.Nodup):l.Pairwise (· < ·):=by
 have:=h.and hn;exact List.Pairwise.imp (λ⟨a,b⟩=>()) this
def jJ{T ns:List Int}{b:Bool}{n:Nat}{gs:List Gm}{st:Yd.St}(hT:T.Nodup)(h:aP T b n (Yd.init n) gs=some st)(hp:ns.Perm T)(hs:ns.Pairwise (· <= ·)):(st.left=ns)↔bu T b n gs=true:=by
 unfold bu;rw[h];show _↔(decide _&&decide _)=true;rw[Bool.and_eq_true,decide_eq_true_iff,decide_eq_true_iff]
 constructor
 ·intro e
  rw[e];exact {hp.length_eq,uh hs (hp.nodup_iff.mpr hT)}
 ·rintro ⟨h1,h2⟩
  obtain ⟨ms,a1,a2,_⟩:=dg h;exact ic (List.Pairwise.imp (λz=>Int.le_of_lt z) h2) hs ((nO hT a1 a2 h1).trans hp.symm)
def jm(h:aP T b n (Yd.init n) gs=none):bu T b n gs=false:=by
 unfold bu;rw[h]
def ui(h:bu T b n gs=true)(ht:t<n):bu T b n (gs++[(Str.ofString "out",(t:Int))])=false:=by
 have h0:=h;unfold bu at h
 split at h
 ·rename_i st e
  rw[Bool.and_eq_true,decide_eq_true_iff,decide_eq_true_iff] at h;obtain ⟨ms,h1,h2,_⟩:=dg e;have D:=Yd.gQ h1 h2 h.1;refine jm ?_;rw[cH,e];show (aQ T b n st (Str.ofString "out",(t:Int))).bind (λs'=>some s')=none;have hg:aQ T b n st (Str.ofString "out",(t:Int))=Yd.step T b st (false,t):=by
   unfold aQ;rw[show ((Str.ofString "out",(t:Int)):Gm)=gOf (false,t) from rfl,vN (show ((false,t):Yd.Mv).2<n from ht)];rfl
  rw[hg];have hl:st.tr.length=n:=by rw[Yd.gP h1];show (List.replicate n ([]:List Int)).length=n;rw[length_replicate]
  have e0:st.tr.getD t []=[]:=by
   rw[getD_eq_getElem?_getD,List.getElem?_eq_getElem ()];exact D.empty t _ (List.getElem?_eq_getElem ())
  have:Yd.step T b st (false,t)=none:=by
   unfold Yd.step;rw[if_neg Bool.false_ne_true];show (if b=true then _ else _)=_;simp only[e0]
   split<;>rfl
  rw[this];rfl
 ·cases h
def uj(C:Addr)(H:Hp)(p mA:Addr)(gs:List Gm):Prop:=∃dx fs,H p=some (.ins C dx fs)/\fs.lookup (Str.ofString "moves")=some (.ref mA)/\fs.lookup (Str.ofString "shows")=none/\bX H mA gs
def uj.same(h:uj C H p mA gs)(s:ag H H'):uj C H' p mA gs:=let ⟨dx,fs,a,b,c,d⟩:=h;⟨dx,fs,s _ _ a,b,c,d.same s⟩
def Cj{c:Prop}{inst:Decidable c}{H:Hp}{Q:VK}(h:¬ c)(q:Q (.bl false) H):Q (.bl (decide c)) H:=by rw[decide_eq_false h];exact q
def jn{c:Prop}{inst:Decidable c}{H:Hp}{Q:VK}(h:c)(q:Q (.bl true) H):Q (.bl (decide c)) H:=by rw[decide_eq_true h];exact q
end My
namespace My
open PySem L2 PyProof.Rows
def inb(m:Int)(ps:List Int):Bool:=ps.all λp=>decide (0<=p)&&decide (p<m)
def Paired.unmap{α β γ:Type}{F:α->γ->Prop}{f:β->γ}:∀{l:List α} {m:List β},Paired F l (m.map f)->Paired (λa b=>F a (f b)) l m
 | _,[],.nil=>.nil
 | _,b::r,.cons h t=>.cons h (Paired.unmap t)
def bX.m{H:L2.Hp}{a:PySem.Addr}{ms:List Yd.Mv}(h:bX H a (ms.map gOf)):bg H a ms:=by
 obtain ⟨rs,e,p⟩:=h;exact {rs,e,Paired.unmap (F:=GmT H) (f:=gOf) p}
def GOk(n:Nat)(gs:List Gm):Prop:=∃ms:List Yd.Mv,gs=ms.map gOf/\∀m∈ms,m.2<n
def GOk.snoc(h:GOk n gs)(ht:t<n):GOk n (gs++[(PySem.Str.ofString "out",(t:Int))]):=by
 obtain ⟨ms,rfl,hm⟩:=h;refine ⟨ms++[(false,t)],by rw[map_append];rfl,λm hmm=>?_⟩;rcases mem_append.mp hmm with z | z
 ·exact hm m z
 ·rw[mem_singleton.mp z]
  exact ht
end My
namespace PyProof.Rows
open PySem
section
variable {prog:Program} {w:World} {A:Around} {E:Value->Shared->Prop} {s:Shared}
def o6{Q:List Value->Shared->Prop}{r:Addr}{a b c:Int}{t u v:Tok}{n:Nat}(hh:A.handled=none)(hr:IsRange s.heap r a b c t u v)(hsmall:Builtin.Range.small a b c=true)
  (hn:Builtin.Range.rangeSize a b c=n) (hlen:n<=2^24)
  (hQ:∀h' tk acc,(∀b o,s.heap.get? b=some o->h'.get? b=some o)->ItemsOf (λi v=>∃t,v=.int (a+i*c) t) acc n->Q acc.toList { s with heap:=h',toks:=tk }):
  wpAny (model prog w) A (collect (.ref r)) Q E s:=by
 unfold collect;refine wpAny_bind
  (wpAny_runValue (codeAny_builtin F.entry_proto_collect ?_))
 rw[Around.under_plainId
  F.plain_proto_collect _]
 show wpAny _ A.in1 (newList [] >>= λl=>again (.builtin "list.__iadd__" ⟨[l,.ref r],[]⟩)) _ _ s;refine wpAny_bind (wpAny_newObj_type ?_);refine wpAny_pure
  ⟨plainId_quiet F.plain_list_iadd _,codeAny_builtin F.entry_list_iadd ?_⟩
 rw[Around.under_plainId
  F.plain_list_iadd _]
 show wpAny _ A.in1 (Builtin.List.listExtendWith (.ref s.heap.objs.size) (.ref r) (.ref s.heap.objs.size)) _ _ _;have hS:(s.heap.push { cls:=.type "list",data:=.seq ([]:List Value).toArray }).get? s.heap.objs.size=some { cls:=.type "list",data:=.seq #[] }:=get?_push_size _ rfl;have fin:∀s',(∃acc c',s'.heap.get? s.heap.objs.size=some { cls:=.type "list",dict:=none,data:=.seq acc c',slots:=#[] }/\Q acc.toList s')->
   wpAny (model prog w) A (load s.heap.objs.size >>= λo=>match o.data with
    | .seq xs _=>pure xs.toList
    | _=>unsupported "internal:collect") Q E s':=λs' ⟨acc,c',e,q⟩=>wpAny_bind (wpAny_load e (wpAny_pure q))
 refine wpAny_mono (wpAny_extend_range (s:={ s with heap:=s.heap.push { cls:=.type "list",data:=.seq ([]:List Value).toArray } })
  (R:=λres s'=>res=.ok (.ret (.ref s.heap.objs.size))/\∃acc c',s'.heap.get? s.heap.objs.size=some { cls:=.type "list",dict:=none,data:=.seq acc c',slots:=#[] }/\Q acc.toList s')
  hh (get?_push_of_some _ hr) hsmall hn hlen s.heap.objs.size (.ref s.heap.objs.size) 0 hS λh' tk acc' c' hk hS' hacc=>⟨rfl,acc',c',hS',?_⟩) (λz s' hz=>?_) λe s' he=>?_
 ·exact hQ h' tk acc' (λb o e=>hk b o (Nat.ne_of_lt (lt_size e)) (get?_push_of_some _ e)) hacc
 ·cases z with
  | done f=>
   obtain ⟨hr',q⟩:=hz;cases hr';exact fin s' q
  | again c'=>
   refine {hz.1,codeAny_mono hz.2 λres s2 q=>?_};obtain ⟨rfl,q⟩:=q;exact fin s2 q
 ·cases he.1
end
end PyProof.Rows
namespace L2
open PySem PySem.Spec PyProof.Rows
def qE(lim:Nat):Prop:=∀{prog:Program} {w:World} {A:Around} {E:Value->Shared->Prop} {s:Shared} {a₀:Array Keyed} {st:SortSt} {Q:Unit->SortSt->Prop},IntKeys a₀->SBase a₀ st->2<=a₀.size->a₀.size<=lim->
 (∀st',(arrOf st').Perm a₀->failedOf st'=none->SortedTo (arrOf st') a₀.size->Q Unit.unit st')->wpS (model prog w) A E s sortRuns' Q st
section
variable {X:Cx} {pins:List (Addr×Obj)} {σ:St} {H:Hp} {s:Shared} {A:Around} {E:Value->Shared->Prop}
def Inv.pin_add(I:Inv X pins σ H s)(f:eA X pins H a)(e:s.heap.get? a=some o)(nc:∀v,o.data≠.cell v):Inv X ((a,o)::pins) σ H s:=I.pins_of λp hp=>by
 rcases mem_cons.mp hp with rfl | hp
 ·exact ⟨e,f.1,f.2.1,f.2.2.1,nc⟩
 ·exact I.pin p (mem_append_right _ hp)
def Inv.pin_drop(I:Inv X (p::pins) σ H s):Inv X pins σ H s:=I.pins_of λq hq=>I.pin q (mem_append_right _ (mem_cons_of_mem _ hq))
def Inv.pin_get(I:Inv X pins σ H s)(h:p∈pins):s.heap.get? p.1=some p.2:=(I.pin p (mem_append_right _ h)).1
def Inv.turn1{t':Nat}(I:Inv X pins σ H s)(f:eA X pins H a)(k:∀b o,b≠a->s.heap.get? b=some o->h'.get? b=some o):Inv X pins σ H { s with heap:=h',toks:=t' }:=
 I.turned k f.1 f.2.1 f.2.2.2.1 f.2.2.2.2.1 f.2.2.2.2.2
def vQ{P:PySem.Fin->Shared->Prop}
  (I:Inv X pins σ H s) (ho:s.heap.get? a=some (seqObj "list" vs.toArray n)) (fa:eA X pins H a) (hlen:kz.length=vs.length) (srt:qE lim) (hlim:lim<=100000) (hz:vs.length<=lim)
  (turn:∀(i:Nat) (v:Value) (k:Int),vs[i]?=some v->kz[i]?=some k->∀(pins':List (Addr×Obj)) (s':Shared),(∀p∈pins,p∈pins')->Inv X pins' σ H s'->
   wpAny (model X.prog X.w) A (call f [v]) (λu s''=>(∃t,u=.int k t)/\Inv X pins' σ H s'') (λ_ _=>False) s')
  (h:∀s' out e,Inv X pins σ H s'->s'.heap.get? a=some (seqObj "list" out e)->KskOut false kz vs out.toList->P (.done (.ret .none)) s'):
  wpAny (model X.prog X.w) A (ksk_tree a f false) P E s:=by
 have hsl:∀m,m<=vs.length->m<=sizeLine:=λm hm=>by rw[sizeLine_eq];omega
 unfold ksk_tree;refine wpAny_bind
  (listItems_at ho rfl ?_)
 refine wpAny_bind
  (listUpdate_at ho rfl ?_ (by rw[size_toArray];exact hsl _ (Nat.le_refl _)) (zero_le _))
 obtain ⟨e1,ho1⟩:∃e1,(s.heap.update a (Obj.mapSeq λ_=>(#[]:Array Value))).get? a=
   some (seqObj "list" #[] e1):=⟨_,get?_update_seq ho _⟩
 have s1:=Heap.SameBut.update s.heap a (Obj.mapSeq λ_=>(#[]:Array Value));have I1:Inv X pins σ H { s with heap:=s.heap.update a (Obj.mapSeq λ_=>(#[]:Array Value)) }:=
  I.turn1 (t':=s.toks) fa λb o hb e=>(s1.2 b hb).trans e
 refine wpAny_bind
  (seqEpoch_at ho1 rfl ?_)
 refine wpAny_bind
  (wpAny_newTuple ?_ (by show vs.length<=_;exact hsl _ (Nat.le_refl _)))
 refine wpAny_bind
  (wpAny_newList ?_ (zero_le _))
 refine wpAny_holding ?_;dsimp only;generalize hh1:s.heap.update a (Obj.mapSeq λ_=>(#[]:Array Value))=h1 at*;have I2:Inv X pins σ H { s with heap:=h1.push (seqObj "tuple" vs.toArray 0) }:=I1.kept (t':=s.toks) λb o e=>get?_push_of_some _ e;have I3:Inv X pins σ H { s with heap:=(h1.push (seqObj "tuple" vs.toArray 0)).push (seqObj "list" #[] 0) }:=I2.kept (t':=s.toks) λb o e=>get?_push_of_some _ e;have fk:eA X pins H (h1.push (seqObj "tuple" vs.toArray 0)).objs.size:=I2.fpOk (Nat.le_refl _) (I2.hok.fresh (Nat.le_refl _));have ha3:((h1.push (seqObj "tuple" vs.toArray 0)).push (seqObj "list" #[] 0)).get? a=some (seqObj "list" #[] e1):=get?_push_of_some _ (get?_push_of_some _ ho1)
 have hk3:((h1.push (seqObj "tuple" vs.toArray 0)).push (seqObj "list" #[] 0)).get? (h1.push (seqObj "tuple" vs.toArray 0)).objs.size=some (seqObj "list" #[] 0):=get?_push_size _ rfl;have hak:a≠(h1.push (seqObj "tuple" vs.toArray 0)).objs.size:=λz=>by
  have:=lt_size (get?_push_of_some (seqObj "tuple" vs.toArray 0) ho1);rw[z] at this;exact lt_irrefl _ this
 generalize hkS:(h1.push (seqObj "tuple" vs.toArray 0)).objs.size=kS at*;have both:∀{s':Shared} {oK:Obj},Inv X pins σ H s'->s'.heap.get? a=some (seqObj "list" #[] e1)->s'.heap.get? kS=some oK->(∀v,oK.data≠.cell v)->Inv X ((a,seqObj "list" #[] e1)::(kS,oK)::pins) σ H s':=λ{s' oK} J ea ek nc=>by
  refine (J.pin_add fk ek nc).pin_add {fa.1,fa.2.1,fa.2.2.1,fa.2.2.2.1,fa.2.2.2.2.1,λp hp=>?_} ea (λv z=>by cases z);rcases mem_append.mp hp with q | q
  ·exact fa.2.2.2.2.2 p (mem_append_left _ q)
  ·rcases mem_cons.mp q with rfl | q
   ·exact λz=>hak z.symm
   ·exact fa.2.2.2.2.2 p (mem_append_right _ q)
 unfold ksk_rest;refine wpAny_bind (wpAny_rule ?_);rw[<- Array.forIn_toList];simp only[List.toList_toArray];refine wpAny_bind (ksk_fold (λi s'=>∃kA e,Inv X ((a,seqObj "list" #[] e1)::(kS,seqObj "list" kA e)::pins) σ H s'/\IntsAre kA.toList (kz.take i)) vs 0 _
  ⟨#[],0,both I3 ha3 hk3 (λv z=>by cases z),by simpa using IntsAre.nil⟩ ?step ?done)
 case step=>
  rintro j x s' hx ⟨kA,e,J,hk⟩;simp only[Nat.zero_add] at hk ⊢;have hj:j<vs.length:=(List.getElem?_eq_some_iff.mp hx).1;obtain ⟨k,hkj⟩:∃k,kz[j]?=some k:=⟨_,List.getElem?_eq_getElem ()⟩;have hzA:kA.size<=vs.length:=by
   have z:=hk.length;rw[length_toList,length_take] at z;omega
  refine wpAny_bind (wpAny_attempt (wpAny_mono (turn j x k hx hkj _ s' (λp hp=>mem_cons_of_mem _ (mem_cons_of_mem _ hp)) J) (λv s2 hq=>?_) λ_ _ hF=>hF.elim));obtain ⟨⟨t2,rfl⟩,J2⟩:=hq;dsimp only;have ea:=J2.pin_get (p:=(a,seqObj "list" #[] e1)) mem_cons_self;have ek:=J2.pin_get (p:=(kS,seqObj "list" kA e)) (mem_cons_of_mem _ mem_cons_self);dsimp only at ea ek;have sb:=Heap.SameBut.update s2.heap kS (Obj.mapSeq (·.push (.int k t2)));obtain ⟨c2,hc2⟩:∃c2,(s2.heap.update kS (Obj.mapSeq (·.push (.int k t2)))).get? kS=some (seqObj "list" (kA.push (.int k t2)) c2):=
   ⟨_,get?_update_seq ek _⟩
  have et:kz.take (j+1)=kz.take j++[k]:=by rw[take_add_one,hkj];rfl
  refine wpAny_bind
   (listUpdate_at ek rfl ?_ (hsl _ hzA) (by rw[Array.size_push];exact succ_le_succ (hsl _ hzA)))
  refine wpAny_pure {rfl,kA.push (.int k t2),c2,?_,?_}
  ·exact both (J2.pin_drop.pin_drop.turn1 (t':=s2.toks) fk λb o hb z=>(sb.2 b hb).trans z) ((sb.2 a hak).trans ea) hc2 (λv z=>by cases z)
  ·rw[et,toList_push]
   exact ksk_snoc hk
 case done=>
  rintro s' ⟨kA,e,J,hk⟩;have hk':IntsAre kA.toList kz:=by
   rw[Nat.zero_add,take_of_length_le ()] at hk;exact hk
  have hszk:kA.size=vs.length:=by
   have z:=hk'.length;rw[length_toList] at z;omega
  have ea:=J.pin_get (p:=(a,seqObj "list" #[] e1)) mem_cons_self;have ek:=J.pin_get (p:=(kS,seqObj "list" kA e)) (mem_cons_of_mem _ mem_cons_self);dsimp only at ea ek ⊢;have J0:=J.pin_drop.pin_drop;refine wpAny_bind
   (listItems_at ek rfl ?_)
  have hzs:(kA.zip vs.toArray).size=vs.length:=by rw[Array.size_zip,hszk,size_toArray,min_self]
  have tail:∀st:SortSt,(arrOf st).Perm (kA.zip vs.toArray)->SortedTo (arrOf st) (arrOf st).size->failedOf st=none->wpAny (model X.prog X.w) A (ksk_tail a false e1 (.ref kS) st) P E s':=by
   intro st hp hs hfl;have hs2:(arrOf st).size=vs.length:=by rw[hp.size_eq,hzs]
   have sb:=Heap.SameBut.update s'.heap kS (Obj.mapSeq λ_=>(#[]:Array Value));have ea1:(s'.heap.update kS (Obj.mapSeq λ_=>(#[]:Array Value))).get? a=some (seqObj "list" #[] e1):=(sb.2 a hak).trans ea;have sb2:=Heap.SameBut.update (s'.heap.update kS (Obj.mapSeq λ_=>(#[]:Array Value))) a (Obj.mapSeq λ_=>(arrOf st).map (·.2));obtain ⟨c2,hc2⟩:∃c2,((s'.heap.update kS (Obj.mapSeq λ_=>(#[]:Array Value))).update a (Obj.mapSeq λ_=>(arrOf st).map (·.2))).get? a=some (seqObj "list" ((arrOf st).map (·.2)) c2):=
    ⟨_,get?_update_seq ea1 _⟩
   unfold ksk_tail;dsimp only;refine wpAny_bind
    (listUpdate_at ek rfl ?_ (hsl _ (Nat.le_of_eq hszk)) (zero_le _))
   refine wpAny_bind (wpAny_letGo ?_);refine wpAny_bind
    (seqEpoch_at ea1 rfl ?_)
   simp only[Bool.false_eq_true,if_false];refine wpAny_bind
    (listUpdate_at ea1 rfl ?_ (zero_le _) (by rw[Array.size_map,hs2];exact Nat.le_succ_of_le (hsl _ (Nat.le_refl _))))
   rw[hfl];simp only[bne_self_eq_false,Bool.false_eq_true,if_false];refine wpAny_pure (h _ _ c2 ?_ hc2 ?_)
   ·exact (J0.turn1 (t':=s'.toks) fk λb o hb z=>(sb.2 b hb).trans z).turn1 (t':=s'.toks) fa λb o hb z=>(sb2.2 b hb).trans z
   ·have z:=ksk_out (b:=false) hk' hp hs
    simpa using z
  unfold ksk_end;simp only[Bool.false_eq_true,if_false]
  by_cases h2:vs.toArray.size<2
  ·rw[if_pos h2,if_pos h2]
   refine wpAny_bind (wpAny_pure ?_);rw[StateT.run_pure];refine wpAny_bind (wpAny_pure ?_);dsimp only;refine tail _ (Array.Perm.refl _) ?_ rfl;intro i j hij hj;have hj2:j<(kA.zip vs.toArray).size:=hj;rw[hzs] at hj2;rw[size_toArray] at h2;have:i=j:=()
   subst this;exact Int.le_refl _
  ·rw[if_neg h2,if_neg h2]
   rw[size_toArray] at h2;rw[ksk_kind hk' (by rw[hszk];omega)];refine wpAny_bind (wpAny_pure ?_);refine wpAny_bind
    (wpAny_mono (srt (a₀:=kA.zip vs.toArray) (st:=SortSt.mk' oneType' (kA.zip vs.toArray) #[] 7 none)
     (Q:=λ_ z=>(arrOf z).Perm (kA.zip vs.toArray)/\failedOf z=none/\SortedTo (arrOf z) (kA.zip vs.toArray).size)
     (ksk_intKeys hk') ⟨Array.Perm.refl _,rfl,rfl,rfl⟩ (by rw[hzs];omega) (by rw[hzs];exact hz) λz b1 b2 b3=>⟨b1,b2,b3⟩) ?_ λ_ _ e=>e)
   rintro ⟨⟨⟩,z⟩ s2 ⟨rfl,b1,b2,b3⟩;dsimp only;exact tail z b1 (by rw[b1.size_eq];exact b3) b2
def vR{P c:Addr}{params:Arguments}{scope:Scope}(I:Inv X pins σ H s)
  (hT:H P=some (.tbl pos (X.env.qual ++ "<lambda>"))) (hcode:X.env.code=.ref c) (C:PySem.W.CodeHd X.base c P) (S:CSc X scope N' cap) (hdef:defaultsOf params X.env=([],[]))
  (h:∀(f c':Addr) (oc:Obj) (vs:Array Value) (t:Tok) (ctv:Value) (s':Shared) (H':Hp),
   Inv X ((f,kla_obj "<lambda>" (X.env.qual ++ "<lambda>") params body scope (aM X.env scope.names []) ((X.mg "__name__").getD .none) c' ctv)::pins) σ H' s'->
   (H'=H\/∃b,H b=none/\H'=upd H b (.frz oc (.own P)))->H' c'=some (.frz oc (.own P))->oc.data=.fields vs->vs[1]?=some (.str (X.env.qual ++ "<lambda>") t)->Q (.ref f) s'):
  wpAny (model X.prog X.w) A (eval (.Lambda params body scope pos) X.env) Q E s:=by
 obtain ⟨ps,hP,tr,hc⟩:=(show aE X.prog X.w H s.heap P (.tbl pos (X.env.qual ++ "<lambda>")) from I.hok P _ hT);obtain ⟨bm,ob,m1,m2,m3,m4,m5,m6⟩:=I.mod.bm;have hgl:s.heap.Ns mainGlobals X.mg:=I.mod.glob.keeps I.bk;have hbmG:bm≠mainGlobals:=λq=>by
  obtain ⟨o,es,ep,e,hd,_⟩:=I.mod.glob;rw[q,e] at m3;cases m3;rw[hd] at m6;cases m6
 have hbmP:bm≠P:=λq=>by
  have e:=I.bk _ _ m3;rw[q,hP] at e;cases e;cases m4
 have hgP:mainGlobals≠P:=λq=>by
  obtain ⟨o,es,ep,e,hd,_⟩:=hgl;rw[q,hP] at e;cases e;cases hd
 have hB:s.heap.BuiltinsAt X.mg P:=⟨bm,ob,m1,m2,hbmG,hbmP,I.bk _ _ m3,m4,m5,m6⟩;have hcl:closureFor scope X.env=pure (aM X.env scope.names []):=iy (I.cellOf S);refine PySem.W.kla_eval hdef ?_;cases hca:codeAmong pos ps.toList with
 | none=>
  refine PySem.W.kla_makeFunction hcl I.ok.glob hgl hcode (C.keeps I.bk) hP tr hca hgP hB λc' ctv h' tk hx hge hlt hrec htb=>?_;obtain ⟨c2,oc,vs,t,ec,hoc,hdc,hq⟩:=hrec;cases ec;have hn:H c'=none:=I.hok.fresh hge;have hPc:P≠c':=af hT hn;have hsz:s.heap.objs.size<=h'.objs.size:=Nat.le_trans hge (Nat.le_of_lt hlt);have lt:∀b o,s.heap.get? b=some o->b≠c':=λb o e=>Nat.ne_of_lt (Nat.lt_of_lt_of_le (lt_size e) hge);have old:∀b o,b≠P->s.heap.get? b=some o->(h'.push (kla_obj "<lambda>" (X.env.qual ++ "<lambda>") params body scope (aM X.env scope.names []) ((X.mg "__name__").getD .none) c' ctv)).get? b=some o:=
   λb o hb e=>get?_push_of_some _ (hx b o hb e)
  have nP:∀b,H b=none->b≠P:=λb n z=>by rw[z,hT] at n;cases n
  have hun:Un X.fs [] H (upd H c' (.frz oc (.own P))) s.heap (h'.push (kla_obj "<lambda>" (X.env.qual ++ "<lambda>") params body scope (aM X.env scope.names []) ((X.mg "__name__").getD .none) c' ctv)):=by
   refine ⟨λb o e n _ _=>old b o (nP b n) e,λb o e n _ _=>{o.slots,old b o (nP b n) e},λb o e n _=>by rw[ae (lt b o e)];exact n,λb o e _=>?_,
    λb xs q=>by rw[ae (af q hn)];exact q,λb o u q=>by rw[ae (af q hn)];exact q,λb pl y q=>by rw[ae (af q hn)];exact q⟩
   by_cases hb:b=P
   ·exact ⟨_,by rw[hb];exact get?_push_of_some _ htb⟩
   ·exact {o,old b o hb e}
  have hok:HOk X.prog X.w (upd H c' (.frz oc (.own P))) (h'.push (kla_obj "<lambda>" (X.env.qual ++ "<lambda>") params body scope (aM X.env scope.names []) ((X.mg "__name__").getD .none) c' ctv)):=λb u e=>by
   by_cases hbc:b=c'
   ·subst hbc
    rw[aa] at e;cases e;exact {get?_push_of_some _ hoc,_,get?_push_of_some _ hoc}
   ·rw[ae hbc] at e
    by_cases hb:b=P
    ·subst hb
     rw[hT] at e;cases e;have eL:(ps++#[rawInt pos.line,rawInt pos.col,Value.ref c']).toList=ps.toList++[rawInt pos.line,rawInt pos.col,Value.ref c']:=by simp
     refine ⟨_,get?_push_of_some _ htb,by rw[eL];exact TriplesOk_snoc _ _ _ _ tr,λcv z=>?_⟩;rw[eL,codeAmong_snoc _ tr hca] at z;cases z;exact ⟨c',oc,vs,t,rfl,aa,hdc,hq⟩
    ·refine (I.hok b u e).stay (λd v hd q=>old d v ?_ q) (λd q=>by rw[ae (af q hn)];exact q) (λd xs q=>by rw[ae (af q hn)];exact q) λd o y q=>by rw[ae (af q hn)];exact q
     rcases hd with rfl | hd
     ·exact hb
     ·intro z;rw[z,hT] at hd;cases hd
  have J:Inv X pins σ (upd H c' (.frz oc (.own P))) { s with heap:=h'.push (kla_obj "<lambda>" (X.env.qual ++ "<lambda>") params body scope (aM X.env scope.names []) ((X.mg "__name__").getD .none) c' ctv),toks:=tk }:=I.un hun hok;refine h h'.objs.size c' oc vs t ctv _ _ (J.pin_add ?_ (get?_push_size _ rfl) (λv z=>by cases z)) (.inr ⟨c',hn,rfl⟩) aa hdc hq;exact I.fpOk hsz (by rw[ae (ne_of_gt hlt)];exact I.hok.fresh hsz)
 | some cv=>
  obtain ⟨c',oc,vs,t,rfl,e2,hdc,hq⟩:=hc cv hca;refine PySem.W.kla_makeFunctionHit hcl I.ok.glob hgl hcode (C.keeps I.bk) hP tr hca hB λctv h' tk hk hsz=>?_;have J:Inv X pins σ H { s with heap:=h'.push (kla_obj "<lambda>" (X.env.qual ++ "<lambda>") params body scope (aM X.env scope.names []) ((X.mg "__name__").getD .none) c' ctv),toks:=tk }:=
   I.kept λb o e=>get?_push_of_some _ (hk b o e)
  refine h h'.objs.size c' oc vs t ctv _ H (J.pin_add ?_ (get?_push_size _ rfl) (λv z=>by cases z)) (.inl rfl) e2 hdc hq;exact I.fpOk hsz (I.hok.fresh hsz)
def zM(X:Cx)(A:Around)(qual:Str)(scope:Scope)(N':List Str)(f:Addr)(cd:Value)(s:Shared)(H:Hp):Cx where
 prog:=X.prog
 w:=X.w
 K:=X.K
 mg:=X.mg
 base:=X.base
 A:=A.deeper (envX qual scope s.heap.objs.size f cd (aM X.env scope.names []))
 N:=N'
 s₀:=s
 H₀:=H
 env:=envX qual scope s.heap.objs.size f cd (aM X.env scope.names [])
 outer:=X.stack
 stack:=envX qual scope s.heap.objs.size f cd (aM X.env scope.names [])::X.stack
 ex:=[]
 calm:=true
 fn:=λ_=>false
 pn:=[]
 xe:=λ_ _=>False
def vS{params:Arguments}{scope:Scope}{P:Addr}
  (I:Inv X pins σ H s) (hA:A.frames=some X.stack) (hh:A.handled=none) (hd:A.depth<recursionLimit)
  (hf:(f,kla_obj "<lambda>" qual params body scope (aM X.env scope.names []) pm c' ctv)∈pins) (hc:H c'=some (.frz oc (.own P))) (hdc:oc.data=.fields vs) (hq:vs[1]?=some (.str qual t))
  (S:CSc X scope [x,y] [none,some j]) (hxl:scope.names.lookup x=some .local) (hco:scope.isCoroutine=false) (hgen:scope.isGenerator=false)
  (hbind:∀cdv,bindArgs (PySem.W.kla_fn "<lambda>" qual params body scope (aM X.env scope.names []) pm cdv ctv) ⟨[v],[]⟩=pure [(x,v)])
  (hσ:σ[j]?=some (some b)) (rv:av a v) (hb:∀s',PE (zM X A qual scope [x,y] f (.ref c') s' H) body te) (q:te [some a,some b] H Qv):
  wpAny (model X.prog X.w) A (call (.ref f) [v]) (λu s'=>∃z H',av z u/\Qv z H'/\Inv X pins σ H' s') (λ_ _=>False) s:=by
 have hlim:=I.nolimit;have ho:=I.pin_get hf;obtain ⟨hoc,_⟩:=(show aE X.prog X.w H s.heap c' (.frz oc (.own P)) from I.hok c' _ hc);refine wpAny_call (PySem.W.kla_callFunE hd ho rfl hco hgen rfl ⟨c',oc,vs,t,rfl,hoc,hdc,hq⟩ ?_);rw[hbind];refine wpAny_pure (wpAny_newFunctionEnv S.nocell (λz hz=>by rw[mem_singleton.mp hz];exact hxl) (λh₁ hns hsb=>?_) S.kind);have hk₁:∀b o,s.heap.get? b=some o->h₁.get? b=some o:=λb o e=>hsb.extBut b o (Nat.ne_of_lt (lt_size e)) (get?_push_of_some _ e);refine {hlim.keeps hk₁,?_};show codeAny _ _ (.expr body (envX qual scope s.heap.objs.size f (.ref c') (aM X.env scope.names []))) _ _
 have J:Inv (zM X A qual scope [x,y] f (.ref c') s H) [] [some a,some b] H { s with heap:=h₁,toks:=s.toks+1 }:=by
  refine ⟨⟨I.ok.mod,S.kind,rfl,rfl,Nat.le_refl _,λz z' d h1 h2=>?_,λz hz=>?_,λz d hz=>(by cases hz),λ_=>hh,Around.frames_deeper hA,.inr ⟨rfl,rfl⟩,λd hd'=>absurd (show d∈([]:List Addr) from hd') (by simp),I.bs,Nat.le_trans I.ok.bsz I.sz,
    λd _ _=>(by show d∉([]:List Addr);simp),λd hd'=>absurd (show d∈([]:List Addr) from hd') (by simp),I.stack,I.stkFree⟩,
   rfl,I.bare,Un.kept hk₁,⟨_,hns,λi z u e1 e2 e3=>?_⟩,λz d e=>?_,I.hok.fresh (Nat.le_refl _),λz d e=>I.freeC z d (I.clLook S e),λp hp=>absurd (show p∈([]:List (Addr×Obj)) from hp) (by simp),I.hok.kept hk₁,rfl⟩
  ·exact I.ok.inj z z' d (I.clLook S h1) (I.clLook S h2)
  ·have hz':scope.names.lookup z=some .cell\/scope.names.lookup z=some .free:=hz
   rcases hz' with hz' | hz'
   ·exact absurd rfl (S.nocell _ (PySem.mem_of_lookup hz'))
   ·exact dz _ _ z (PySem.mem_of_lookup hz')
  ·match i,e1,e2 with
   | 0,e1,e2=>
    cases e1;cases e2;exact {v,rv,.inl ⟨hxl,by simp⟩}
   | 1,e1,e2=>
    cases e1;cases e2;obtain ⟨a1,_,a3⟩:=S.cap 1 (mem_range.mpr (by show 1<2;omega)) j rfl;have a1':X.N[j]?=some y:=a1.symm;have a3':scope.names.lookup y=some .free:=a3;have hk':X.env.kindOf y=some .cell\/X.env.kindOf y=some .free:=S.free _ (PySem.mem_of_lookup a3') rfl;obtain ⟨m0,hn0,hl⟩:=I.loc;obtain ⟨u',ru,lk⟩:=hl j y _ a1' hσ (hk'.elim (λz=>.inr (.inl z)) λz=>.inr (.inr z));refine {u',ru,?_};rcases lk with ⟨z,_⟩ | ⟨_,d,ec,hcell⟩
    ·rcases hk' with w' | w'
     ·rw[z] at w';cases w'
     ·rw[z] at w';cases w'
    ·obtain ⟨d',ec'⟩:=dz (env:=X.env) scope.names [] y (PySem.mem_of_lookup a3')
     have:d'=d:=Option.some.inj ((I.clLook S ec').symm.trans ec);subst this;exact .inr {.inr a3',d',ec',hcell.keeps hk₁}
  ·obtain ⟨u',z'⟩:=I.cell z d (I.clLook S e)
   exact {u',z'.keeps hk₁}
 refine PySem.W.kla_codeExpr (wpAny_mono (hb s [] _ _ H Qv J q) (λu s' hu=>?_) λ_ _ z=>False.elim z);obtain ⟨z,H',J',rz,qz⟩:=hu;exact {z,H',rz,qz,I.call' (ch:=[]) J'.os J'.base J'.hok J'.bare λd hd'=>absurd hd' (by simp)}
end
abbrev Ck:=Addr->Option (Pos×Str)
def jo(K:PySem.W.Frag)(L:List (Str×Pos×Str)):Ck:=λb=>L.findSome? λe=>match tabIn K e.1 with
 | some p=>if b=p.2 then some e.2 else none
 | none=>none
def vT{K:PySem.W.Frag}{f:Str}{pl:Pos}{q:Str}{c P:Addr}(h:tabIn K f=some (c,P)):jo K [(f,pl,q)] P=some (pl,q):=by
 unfold jo;simp[h]
def o7{K:PySem.W.Frag}{L:List (Str×Pos×Str)}{b:Addr}{p:Pos×Str}(h:jo K L b=some p):∃e∈L,∃c,tabIn K e.1=some (c,b):=by
 unfold jo at h;obtain ⟨e,he,q⟩:=List.exists_of_findSome?_eq_some h;refine {e,he,?_};cases z:tabIn K e.1 with
 | none=>rw[z] at q;cases q
 | some r=>
  rw[z] at q;dsimp only at q
  split at q
  ·rename_i hb
   exact ⟨r.1,by rw[hb]⟩
  ·cases q
def qF(K:PySem.W.Frag)(L:List (Str×Pos×Str))(H:Hp):Prop:=∀b p,jo K L b=some p->H b=some (.tbl p.1 p.2)
def uk{P:Program}{w:World}{K:PySem.W.Frag}{mg mb:Str->Option Value}{CX:CXT}{k:Nat}{fa a:Addr}{fd:FuncData}{x:Str}{sp:Sp}{s₁:Shared}{vs:List Value}{ns:List Int}(τ:Ck)
  (KX:K.In s₁.heap) (hns:s₁.heap.Ns mainGlobals mg) (hb:s₁.heap.Ns builtinsNs mb) (hbb:∀x:Str,x ≠ "__name__"->mb x=bootBuiltins x) (hlim:s₁.heap.NoLimit) (hg:s₁.gens=#[])
  (hbm:∃bm ob,mg "__builtins__"=some (.ref bm)/\bm≠builtinsNs/\s₁.heap.get? bm=some ob/\ob.cls=.type "module"/\ob.dict=some builtinsNs/\ob.data=.plain)
  (hτ:∀b p,τ b=some p->∃c,PySem.W.CodeHd s₁.heap c b/\s₁.heap.get? b=some (PySem.W.tabObj #[])) (hτK:∀b p,τ b=some p->K.lookup b=none)
  (ha:s₁.heap.get? a=some { cls:=.type "list",data:=.seq vs.toArray }) (hi:IntsAre vs ns) (hl:ns.length<=sizeLine) (hr:bi k callerA)
  (F:∀base:Heap,K.In base->base.Ns mainGlobals mg->b9 P w K mg base CX k fa fd [x] sp) (hbind:∀(s:Shared) (u:Value),BindsTo s fd ⟨[u],[]⟩ [(x,u)])
  (hsp:∀H:Hp,(∀b p,τ b=some p->H b=some (.tbl p.1 p.2))->SqL K H a (ns.map V.int)->sp [.ref a] H (λv _=>v=.bl true) λ_ _ _=>False)
  (hCX:∀H e s',CX [] H s₁ (λ_ _ _=>False) e s'->False):
  codeAny (model P w) callerA (.call (.ref fa) ⟨[.ref a],[]⟩) (λr s'=>r=.ok (.ret (.bool true))/\OldK s₁.heap s'.heap/\s'.os=s₁.os/\AllBare s'.gens) s₁:=by
 have rv:=jh hi;have lenV:=hi.length;have hta:∀p,τ a≠some p:=λp z=>by
  obtain ⟨c,_,e⟩:=hτ a p z;rw[ha] at e;cases e
 have core:∀H:Hp,(∀b p,τ b=some p->H b=some (.tbl p.1 p.2))->SqL K H a (ns.map V.int)->HOk P w H s₁.heap->
   (∀b u,H b=some u->(b=a/\(∃o xs,u=.frz o (.lst xs))/\K.lookup a=none)\/∃p,τ b=some p/\u=.tbl p.1 p.2)->
   codeAny (model P w) callerA (.call (.ref fa) ⟨[.ref a],[]⟩) (λr s'=>r=.ok (.ret (.bool true))/\OldK s₁.heap s'.heap/\s'.os=s₁.os/\AllBare s'.gens) s₁:=by
  intro H hT hS hok hA;have obj_of:∀{b:Addr} {o:Obj} {u:HO},s₁.heap.get? b=some o->H b=some u->(∃xs n,o.data=.seq xs n)\/∃ps,o.data=.fields ps/\o.cls=.none:=λ{b o u} e q=>by
   rcases hA b u q with ⟨rfl,_⟩ | ⟨p,hp,_⟩
   ·rw[ha] at e;cases e;exact .inl {_,_,rfl}
   ·obtain ⟨c,_,e'⟩:=hτ b p hp
    rw[e'] at e;cases e;exact .inr {_,rfl,rfl}
  have base_of:∀{b:Addr} {o:Obj},s₁.heap.get? b=some o->H b=none->(nu s₁.heap H).get? b=some o:=λe n=>uL e n;have noA:∀{b:Addr} {o:Obj} {es:Array DictEntry} {ep:Nat},s₁.heap.get? b=some o->o.data=.dict es ep->H b=none:=λ{b o es ep} e d=>by
   cases q:H b with
   | none=>rfl
   | some u=>
    rcases obj_of e q with ⟨xs,n,z⟩ | ⟨ps,z,_⟩
    ·rw[d] at z;cases z
    ·rw[d] at z;cases z
  have nsK:∀{b:Addr} {m:Str->Option Value},s₁.heap.Ns b m->(nu s₁.heap H).Ns b m:=λ{b m} ⟨o,es,ep,e,d,r⟩=>⟨o,es,ep,base_of e (noA e d),d,r⟩;have hKb:K.In (nu s₁.heap H):=λb o e=>base_of (KX b o e) (by
   cases q:H b with
   | none=>rfl
   | some u=>
    rcases hA b u q with ⟨rfl,_,z⟩ | ⟨p,hp,_⟩
    ·rw[z] at e;cases e
    ·rw[hτK b p hp] at e;cases e)
  obtain ⟨bm,ob,m1,m2,m3,m4,m5,m6⟩:=hbm;have hbmH:H bm=none:=by
   cases q:H bm with
   | none=>rfl
   | some u=>
    rcases obj_of m3 q with ⟨xs,n,z⟩ | ⟨ps,z,_⟩
    ·rw[m6] at z;cases z
    ·rw[m6] at z;cases z
  have hM:Mod K mg (nu s₁.heap H):=⟨hKb,nsK hns,⟨mb,nsK hb,hbb⟩,let ⟨mc,h1,h2⟩:=hlim;⟨mc,nsK h1,h2⟩,⟨bm,ob,m1,m2,base_of m3 hbmH,m4,m5,m6⟩⟩;have e0:qg P w K mg (nu s₁.heap H) callerA [] s₁ H:=⟨rfl,hM,λb o e=>wU e,Nat.le_of_eq (sW _ _),trivial,λb hb=>absurd (show b∈([]:List Addr) from hb) (by simp),hok,.of_eq hg⟩;refine codeAny_mono ((F _ hKb (nsK hns)).run callerA [] s₁ H {[.ref a],[]} [.ref a] [.ref a] _ _ hr e0 (hbind s₁ (.ref a)) (.cons rfl .nil) (hsp H hT hS)) λr s' h=>?_;cases r with
  | error e=>exact (hCX H e s' h).elim
  | ok fl=>
   cases fl with
   | next=>exact False.elim h
   | brk=>exact False.elim h
   | cont=>exact False.elim h
   | ret u=>
    obtain ⟨v,H',os,bare,un,hok',r',q⟩:=h;have q':v=.bl true:=q;subst q';obtain rfl:u=Value.bool true:=r';have was:∀b o,s₁.heap.get? b=some o->asItWas s₁.heap s'.heap b o:=λb o e=>by
     cases q:H b with
     | none=>exact .inl (un.keep b o e q (by intro z;exact absurd (show b∈([]:List Addr) from z) (by simp)) (by simp))
     | some u=>
      rcases hA b u q with ⟨rfl,⟨ob',xs,rfl⟩,_⟩ | ⟨p,hp,rfl⟩
      ·have z2:=un.frzs b ob' _ q
       obtain ⟨e1,_⟩:=hok b _ q;obtain ⟨e2,_⟩:=hok' b _ z2;rw[e] at e1;cases e1;exact .inl e2
      ·obtain ⟨c,C,e'⟩:=hτ b p hp
       rw[e'] at e;cases e;obtain ⟨ps,z,_⟩:=hok' b _ (un.tbls b _ _ q);refine .inr (.inl {(C.tab e').isCodeTable,rfl,#[],ps,rfl,?_});rw[z];simp
    exact {rfl,{was,λb o e=>un.there b o e (by simp)},os,bare}
 have tok:∀(H:Hp) b p,τ b=some p->aE P w H s₁.heap b (.tbl p.1 p.2):=λH b p hp=>by
  obtain ⟨c,_,e⟩:=hτ b p hp;refine {#[],e,trivial,λcv z=>?_};simp[codeAmong] at z
 cases hk:K.lookup a with
 | some o=>
  have e:=KX a o hk;rw[ha] at e;cases e;refine core (λb=>(τ b).map λp=>.tbl p.1 p.2) (λb p hp=>by simp[hp]) (.inr ⟨_,vs.toArray,_,hk,rfl,rfl,rfl,by rw[size_toArray,lenV];exact hl,by simpa using rv⟩) (λb u z=>?_) (λb u z=>?_)
  ·obtain ⟨p,hp,rfl⟩:=map_eq_some_iff.mp z
   exact tok _ b p hp
  ·obtain ⟨p,hp,rfl⟩:=map_eq_some_iff.mp z
   exact .inr ⟨p,hp,rfl⟩
 | none=>
  refine core (λb=>if b=a then some (.frz { cls:=.type "list",data:=.seq vs.toArray } (.lst (ns.map V.int))) else (τ b).map λp=>.tbl p.1 p.2) (λb p hp=>?_) (.inl (.inr {{ cls:=.type "list",data:=.seq vs.toArray },if_pos rfl})) (λb u z=>?_) (λb u z=>?_)
  ·have hb:b≠a:=λq=>hta p (q▸hp)
   show (if b=a then _ else _)=_;rw[if_neg hb,hp];rfl
  ·by_cases hb:b=a
   ·have z':=(if_pos hb).symm.trans z
    cases z';subst hb;exact ⟨ha,by rw[length_map];exact hl,vs,_,rv,ha⟩
   ·have z':=(if_neg hb).symm.trans z
    obtain ⟨p,hp,rfl⟩:=map_eq_some_iff.mp z';exact tok _ b p hp
  ·by_cases hb:b=a
   ·have z':=(if_pos hb).symm.trans z
    cases z';exact .inl {hb,{_,_,rfl},hk}
   ·have z':=(if_neg hb).symm.trans z
    obtain ⟨p,hp,rfl⟩:=map_eq_some_iff.mp z';exact .inr ⟨p,hp,rfl⟩
def vU{l:PySem.W.OpenLaw}{n k:Nat}{q:Program}{loose:List Str}{XP:(Str->Option Value)->Heap->Prop}{YP:World->Heap->Prop}{d:DefRec}{K:Params->PySem.W.Frag}{CX:World->CXT}{sp:World->Sp}{x:Str}(L:List (Str×Pos×Str))
  (hn:l.most=some n) (hn2:n<=sizeLine) (hdf:d.params.defaults=[]) (hr:bi k callerA)
  (hY:∀(w:World) (h:Heap),YP w h->(K w.params).In h)
  (hL:∀e∈L,∃d',(recsOf q).find? (λr=>r.name==e.1)=some d') (hK:∀(w:World),∀e∈L,∀c P,tabIn (K w.params) e.1=some (c,P)->(K w.params).lookup P=none)
  (F:∀(w:World) (mg:Str->Option Value) (fa:Addr) (h:Heap),(K w.params).In h->h.Ns mainGlobals mg->mg d.name=some (.ref fa)->
   ∃fd:FuncData,(∀(s:Shared) (u:Value),BindsTo s fd ⟨[u],[]⟩ [(x,u)]) /\
    ∀base:Heap,(K w.params).In base->base.Ns mainGlobals mg->b9 l.prog w (K w.params) mg base (CX w) k fa fd [x] (sp w))
  (hsp:∀(w:World) (H:Hp) (a:Addr) (ns:List Int),ns.length<=n->qF (K w.params) L H->SqL (K w.params) H a (ns.map V.int)->sp w [.ref a] H (λv _=>v=.bl true) λ_ _ _=>False)
  (hCX:∀(w:World) (H:Hp) (s:Shared) (e:Value) (s':Shared),CX w [] H s (λ_ _ _=>False) e s'->False):
  PySem.W.WalkO q loose XP YP l.row.toRowW d [] (λf vs=>PySem.call f vs):=by
 refine Att.attach_call hn hdf λw s₀ s₁ mg mb fa o pm cd doc a vs ns G Y ho hd hcd hmg hobj hints hlen hg=>?_
 have KX:=hY w _ Y;obtain ⟨fd,hb,hF⟩:=F w mg fa _ KX G.T.g hmg;refine uk (jo (K w.params) L) KX G.T.g G.T.b G.T.builtins G.T.nolimit hg G.T.bmain (λb p hp=>?_) (λb p hp=>?_) hobj hints (Nat.le_trans hlen hn2) hr hF hb (λH hO hS=>hsp w H a ns hlen hO hS) λH e s'=>hCX w H s₁ e s'
 ·obtain ⟨e,he,c,z⟩:=o7 hp
  obtain ⟨d',hd'⟩:=hL e he;obtain ⟨h1,h2⟩:=PySem.W.tab_of G.T KX hd' z;exact ⟨c,h1,h2⟩
 ·obtain ⟨e,he,c,z⟩:=o7 hp
  exact hK w e he c b z
end L2
namespace Sh
structure S where
 st:List (List Nat)
 gone:Nat
 mv:List Yd.Mv
def out(ord trk:List Nat)(s:S):Option S:=
 match ord[s.gone]? with
 | none=>none
 | some w=>if (s.st.getD (trk.getD w 0) []).getLast?=some w then some ⟨s.st.set (trk.getD w 0) (s.st.getD (trk.getD w 0) []).dropLast,s.gone+1,s.mv++[(false,trk.getD w 0)]⟩ else none
def inn(trk:List Nat)(s:S)(i:Nat):S:=⟨s.st.set (trk.getD i 0) (s.st.getD (trk.getD i 0) []++[i]),s.gone,s.mv++[(true,trk.getD i 0)]⟩
inductive jZ(ord trk:List Nat):S->S->Prop
 | refl (s:S):jZ ord trk s s
 | step {s s' s'':S}:jZ ord trk s s'->out ord trk s'=some s''->jZ ord trk s s''
def init(many:Nat):S:=⟨List.replicate many [],0,[]⟩
inductive Run(ord trk:List Nat)(many:Nat):Nat->S->Prop
 | zero:Run ord trk many 0 (init many)
 | succ {i:Nat} {s s':S}:Run ord trk many i s->jZ ord trk (inn trk s i) s'->out ord trk s'=none->Run ord trk many (i+1) s'
section
variable {T:List Int} {ord trk:List Nat} {many:Nat}
def yst(T:List Int)(ord:List Nat)(s:S)(i:Nat):Yd.St:=⟨s.st.map λc=>c.map λp=>T.getD p 0,(ord.take s.gone).map λp=>T.getD p 0,i⟩
def ly{s:List (List Nat)}{f:Nat->Int}(t:Nat):(s.map λc=>c.map f).getD t []=(s.getD t []).map f:=by
 rw[getD_eq_getElem?_getD,getD_eq_getElem?_getD,getElem?_map];cases s[t]?<;>rfl
def Ba{s:S}{i:Nat}(hi:i<T.length):Yd.step T true (yst T ord s i) (true,trk.getD i 0)=some (yst T ord (inn trk s i) (i+1)):=by
 unfold Yd.step;rw[if_pos rfl];show (match T[i]? with | some x=>_ | none=>none)=_;rw[List.getElem?_eq_getElem hi];show some (Yd.St.mk _ _ _)=some (Yd.St.mk _ _ _);congr 2;show List.set (s.st.map λc=>c.map λp=>T.getD p 0) (trk.getD i 0) ((s.st.map λc=>c.map λp=>T.getD p 0).getD (trk.getD i 0) []++[T[i]])=(s.st.set (trk.getD i 0) (s.st.getD (trk.getD i 0) []++[i])).map _;rw[map_set,ly,map_append];congr 2;show [T[i]]=[T.getD i 0];rw[getD_eq_getElem?_getD,List.getElem?_eq_getElem hi];rfl
def Bb{s s':S}{i:Nat}(h:out ord trk s=some s'):∃m,s'.mv=s.mv++[m]/\Yd.step T true (yst T ord s i) m=some (yst T ord s' i):=by
 unfold out at h;cases e:ord[s.gone]? with
 | none=>rw[e] at h;cases h
 | some w=>
  rw[e] at h;dsimp only at h
  split at h
  ·rename_i hl
   cases h;refine {_,rfl,?_};unfold Yd.step;rw[if_neg Bool.false_ne_true,if_pos rfl];show (match ((s.st.map λc=>c.map λp=>T.getD p 0).getD (trk.getD w 0) []).getLast? with | some x=>_ | none=>none)=_;rw[ly,List.getLast?_map,hl];show some (Yd.St.mk _ _ _)=some (Yd.St.mk _ _ _);congr 2
   ·show List.set (s.st.map λc=>c.map λp=>T.getD p 0) (trk.getD w 0) (List.dropLast ((s.st.map λc=>c.map λp=>T.getD p 0).getD (trk.getD w 0) []))=(s.st.set (trk.getD w 0) _).map _
    rw[map_set,ly,map_dropLast]
   ·show (ord.take s.gone).map (λp=>T.getD p 0)++[T.getD w 0]=(ord.take (s.gone+1)).map λp=>T.getD p 0
    rw[take_add_one,e,map_append];rfl
  ·cases h
def yC(h:jZ ord trk s s'):∃ms,s'.mv=s.mv++ms/\∀y,Yd.steps T true y s.mv=some (yst T ord s i)->Yd.steps T true y s'.mv=some (yst T ord s' i):=by
 induction h with
 | refl=>exact ⟨[],by simp,λ_ q=>q⟩
 | step h e ih=>
  obtain ⟨ms,e1,q⟩:=ih;obtain ⟨m,e2,z⟩:=Bb (T:=T) (i:=i) e;refine ⟨ms++[m],by rw[e2,e1,append_assoc],λy hy=>?_⟩;rw[e2,Yd.fq,q y hy];exact z
def Bc{n i:Nat}(h:Run ord trk many i s)(hi:i<=T.length):Yd.steps T true (Yd.init many) s.mv=some (yst T ord s i):=by
 induction h with
 | zero=>
  show some (Yd.init many)=_;unfold yst init Yd.init;simp
 | @succ i s s' h o _ ih=>
  have q:=ih ();obtain ⟨ms,_,z⟩:=yC (T:=T) (i:=i+1) o;refine z _ ?_;show Yd.steps T true (Yd.init many) (s.mv++[(true,trk.getD i 0)])=_;rw[Yd.fq,q];exact Ba ()
end
section
variable {ord trk:List Nat} {many n:Nat}
structure Ord(ord:List Nat)(n:Nat):Prop where
 nd:ord.Nodup
 mem:∀p,p∈ord↔p<n
def Ord.at_(h:Ord ord n)(hp:p<n):ord[ord.idxOf p]?=some p:=by
 have hm:=(h.mem p).mpr hp;rw[List.getElem?_eq_getElem (idxOf_lt_length_iff.mpr hm),List.getElem_idxOf]
def Ord.idx(h:Ord ord n)(e:ord[j]?=some p):ord.idxOf p=j:=by
 obtain ⟨hj,rfl⟩:=List.getElem?_eq_some_iff.mp e;exact h.nd.idxOf_getElem j hj
def Ord.lt(h:Ord ord n){j p:Nat}(e:ord[j]?=some p):p<n:=(h.mem p).mp (mem_of_getElem? e)
def Ord.inj(h:Ord ord n)(hp:p<n)(hq:q<n)(e:ord.idxOf p=ord.idxOf q):p=q:=by
 have a:=h.at_ hp;rw[e,h.at_ hq] at a;exact (Option.some.inj a).symm
def iQ(ord trk:List Nat)(s:S)(i:Nat):Prop:=∃w,ord[s.gone]?=some w/\w<i/\(s.st.getD (trk.getD w 0) []).getLast?≠some w
structure J(ord trk:List Nat)(many n i:Nat)(s:S):Prop where
 len:s.st.length=many
 here:∀t p,p∈s.st.getD t []↔(p<i/\trk.getD p 0=t/\s.gone<=ord.idxOf p)
 up:∀t (k a b:Nat),(s.st.getD t [])[k]?=some a->(s.st.getD t [])[k+1]?=some b->a<b
 adj:∀t (k a b:Nat),(s.st.getD t [])[k]?=some a->(s.st.getD t [])[k+1]?=some b->ord.idxOf a<ord.idxOf b->
  ∃r w,r<ord.idxOf a/\ord[r]?=some w/\(b<w\/(s.gone=r/\iQ ord trk s i))
def gc{s:List (List Nat)}{t t':Nat}{c:List Nat}(ht:t<s.length):(s.set t c).getD t' []=if t'=t then c else s.getD t' []:=by
 rw[getD_eq_getElem?_getD,getD_eq_getElem?_getD,List.getElem?_set]
 by_cases e:t=t'
 ·subst e
  rw[if_pos rfl,if_pos rfl,if_pos ht];rfl
 ·rw[if_neg e,if_neg (Ne.symm e)]
def o8(b:iQ ord trk s i):out ord trk s=none:=by
 obtain ⟨w,e,_,h⟩:=b;unfold out;rw[e];exact if_neg h
def J.left(O:Ord ord n)(j:J ord trk many n i s)(ht:∀p,p<n->trk.getD p 0<many)(e:out ord trk s=some s'):J ord trk many n i s':=by
 have nb:¬ iQ ord trk s i:=λb=>by rw[o8 b] at e;cases e
 unfold Sh.out at e;cases ew:ord[s.gone]? with
 | none=>rw[ew] at e;cases e
 | some w=>
  rw[ew] at e;dsimp only at e
  split at e
  ·rename_i hl
   cases e;have hw:=O.lt ew;have htw:trk.getD w 0<s.st.length:=by rw[j.len];exact ht w hw
   have iw:=O.idx ew;have hge:∀t',(s.st.set (trk.getD w 0) (s.st.getD (trk.getD w 0) []).dropLast).getD t' []=if t'=trk.getD w 0 then (s.st.getD (trk.getD w 0) []).dropLast else s.st.getD t' []:=λt'=>gc htw;have hsp:s.st.getD (trk.getD w 0) []=(s.st.getD (trk.getD w 0) []).dropLast++[w]:=by
    have hne:s.st.getD (trk.getD w 0) []≠[]:=λz=>by rw[z] at hl;cases hl
    rw[List.getLast?_eq_some_getLast hne] at hl;have:=List.dropLast_concat_getLast hne;rw[Option.some.inj hl] at this;exact this.symm
   have hnot:w∉(s.st.getD (trk.getD w 0) []).dropLast:=λhm=>by
    obtain ⟨k,hk,ek⟩:=getElem_of_mem hm;have hk':k<(s.st.getD (trk.getD w 0) []).length-1:=by rw[length_dropLast] at hk;exact hk
    have mono:∀d,k+d<(s.st.getD (trk.getD w 0) []).length->∀a,(s.st.getD (trk.getD w 0) [])[k+d]?=some a->(0<d->w<a)/\(d=0->a=w):=by
     intro d
     induction d with
     | zero=>
      intro hd a ea;refine {λz=>absurd z (),λ_=>?_};rw[List.getElem_dropLast] at ek;rw[Nat.add_zero,List.getElem?_eq_getElem (),ek] at ea;exact (Option.some.inj ea).symm
     | succ d ih=>
      intro hd a ea;have q:=ih () _ (List.getElem?_eq_getElem ());have u:=j.up _ (k+d) _ a (List.getElem?_eq_getElem ()) ea;refine {λ_=>?_,λz=>absurd z ()};cases d with
      | zero=>rw[q.2 rfl] at u;exact u
      | succ d=>have:=q.1 ();omega
    have hlast:(s.st.getD (trk.getD w 0) [])[(s.st.getD (trk.getD w 0) []).length-1]?=some w:=by rw[<- getLast?_eq_getElem?];exact hl
    have:=(mono ((s.st.getD (trk.getD w 0) []).length-1-k) () w (by rw[show k+((s.st.getD (trk.getD w 0) []).length-1-k)=(s.st.getD (trk.getD w 0) []).length-1 from ()];exact hlast)).1 ();omega
   have sub:∀{t k a},((s.st.set (trk.getD w 0) (s.st.getD (trk.getD w 0) []).dropLast).getD t [])[k]?=some a->(s.st.getD t [])[k]?=some a:=λ{t k a} z=>by
    rw[hge t] at z
    split at z
    ·rename_i et
     subst et;rw[List.getElem?_dropLast] at z
     split at z
     ·exact z
     ·cases z
    ·exact z
   refine ⟨by show (s.st.set _ _).length=_;rw[length_set];exact j.len,λt p=>?_,λt k a b z1 z2=>j.up t k a b (sub z1) (sub z2),λt k a b z1 z2 z3=>?_⟩
   ·show p∈(s.st.set (trk.getD w 0) _).getD t []↔_/\_/\s.gone+1<=_
    rw[hge t]
    by_cases et:t=trk.getD w 0
    ·rw[if_pos et]
     subst et
     constructor
     ·intro hp
      have hp':p∈s.st.getD (trk.getD w 0) []:=by rw[hsp];exact mem_append_left _ hp
      obtain ⟨h1,h2,h3⟩:=(j.here _ p).mp hp';refine {h1,h2,?_}
      by_cases z:ord.idxOf p=s.gone
      ·have:p=w:=by
        have hpm:p<n\/¬ p<n:=Decidable.em _;rcases hpm with hpn | hpn
        ·have:=O.at_ hpn
         rw[z,ew] at this;exact (Option.some.inj this).symm
        ·have:p∉ord:=λhm=>hpn ((O.mem p).mp hm)
         have hl2:=List.idxOf_eq_length (l:=ord) (a:=p) this;have:=(List.getElem?_eq_some_iff.mp ew).1;omega
       exact absurd (this▸hp) hnot
      ·omega
     ·rintro ⟨h1,h2,h3⟩
      have hp':=(j.here (trk.getD w 0) p).mpr ⟨h1,h2,()⟩;rw[hsp] at hp';rcases mem_append.mp hp' with z | z
      ·exact z
      ·rw[mem_singleton.mp z,iw] at h3
       omega
    ·rw[if_neg et]
     constructor
     ·intro hp
      obtain ⟨h1,h2,h3⟩:=(j.here t p).mp hp;refine {h1,h2,?_}
      by_cases z:ord.idxOf p=s.gone
      ·exfalso
       by_cases hpn:p<n
       ·have:=O.at_ hpn
        rw[z,ew] at this;rw[<- Option.some.inj this] at h2;exact et h2.symm
       ·have:p∉ord:=λhm=>hpn ((O.mem p).mp hm)
        have hl2:=List.idxOf_eq_length (l:=ord) (a:=p) this;have:=(List.getElem?_eq_some_iff.mp ew).1;omega
      ·omega
     ·rintro ⟨h1,h2,h3⟩
      exact (j.here t p).mpr {h1,h2,()}
   ·obtain ⟨r,w',h1,h2,h3⟩:=j.adj t k a b (sub z1) (sub z2) z3
    rcases h3 with h3 | ⟨_,h3⟩
    ·exact {r,w',h1,h2,.inl h3}
    ·exact absurd h3 nb
  ·cases e
def J.outs(O:Ord ord n)(ht:∀p,p<n->trk.getD p 0<many)(o:jZ ord trk s s')(j:J ord trk many n i s):J ord trk many n i s':=by
 induction o with
 | refl=>exact j
 | step _ e ih=>exact ih.left O ht e
def J.come(O:Ord ord n)(j:J ord trk many n i s)(ht:∀p,p<n->trk.getD p 0<many)(hi:i<n)(no:Sh.out ord trk s=none)(hg:∀p,p<n->ord.idxOf p<s.gone->p<i):J ord trk many n (i+1) (inn trk s i):=by
 have hti:trk.getD i 0<s.st.length:=by rw[j.len];exact ht i hi
 have hge:∀t',(s.st.set (trk.getD i 0) (s.st.getD (trk.getD i 0) []++[i])).getD t' []=if t'=trk.getD i 0 then s.st.getD (trk.getD i 0) []++[i] else s.st.getD t' []:=λt'=>gc hti;have bl:∀w,ord[s.gone]?=some w->w<i->iQ ord trk (inn trk s i) (i+1):=λw ew hw=>by
  refine {w,ew,(),?_};show ((s.st.set (trk.getD i 0) _).getD (trk.getD w 0) []).getLast?≠_;rw[hge]
  split
  ·rw[getLast?_append,List.getLast?_singleton]
   intro z;have:i=w:=Option.some.inj z;omega
  ·intro z
   unfold Sh.out at no;rw[ew] at no;dsimp only at no;rw[if_pos z] at no;cases no
 refine ⟨by show (s.st.set _ _).length=_;rw[length_set];exact j.len,λt p=>?_,λt k a b z1 z2=>?_,λt k a b z1 z2 z3=>?_⟩
 ·show p∈(s.st.set (trk.getD i 0) _).getD t []↔_
  rw[hge t];have ing:s.gone<=ord.idxOf i:=by
   by_cases z:s.gone<=ord.idxOf i
   ·exact z
   ·have:=hg i hi ()
    omega
  by_cases et:t=trk.getD i 0
  ·rw[if_pos et,mem_append,mem_singleton]
   subst et
   constructor
   ·rintro (h | rfl)
    ·obtain ⟨h1,h2,h3⟩:=(j.here _ p).mp h
     exact {(),h2,h3}
    ·exact {(),rfl,ing}
   ·rintro ⟨h1,h2,h3⟩
    by_cases z:p=i
    ·exact .inr z
    ·exact .inl ((j.here _ p).mpr {(),h2,h3})
  ·rw[if_neg et]
   constructor
   ·intro h
    obtain ⟨h1,h2,h3⟩:=(j.here _ p).mp h;exact {(),h2,h3}
   ·rintro ⟨h1,h2,h3⟩
    by_cases z:p=i
    ·rw[z] at h2;exact absurd h2.symm et
    ·exact (j.here _ p).mpr {(),h2,h3}
 ·have z1':((s.st.set (trk.getD i 0) (s.st.getD (trk.getD i 0) []++[i])).getD t [])[k]?=some a:=z1
  have z2':((s.st.set (trk.getD i 0) (s.st.getD (trk.getD i 0) []++[i])).getD t [])[k+1]?=some b:=z2;rw[hge t] at z1' z2'
  split at z1'
  ·rename_i et
   rw[if_pos et] at z2';rw[getElem?_append] at z1' z2'
   split at z2'
   ·rw[if_pos ()] at z1'
    exact j.up _ k a b z1' z2'
   ·rename_i hk
    have hb:b=i:=by
     cases q:k+1-(s.st.getD (trk.getD i 0) []).length with
     | zero=>rw[q] at z2';exact (Option.some.inj z2').symm
     | succ d=>rw[q] at z2';simp at z2'
    split at z1'
    ·obtain ⟨h1,_⟩:=(j.here _ a).mp (mem_of_getElem? z1')
     omega
    ·have:k+1-(s.st.getD (trk.getD i 0) []).length≠0:=()
     cases q:k+1-(s.st.getD (trk.getD i 0) []).length with
     | zero=>exact absurd q this
     | succ d=>rw[q] at z2';simp at z2'
  ·rename_i et
   rw[if_neg et] at z2';exact j.up _ k a b z1' z2'
 ·have z1':((s.st.set (trk.getD i 0) (s.st.getD (trk.getD i 0) []++[i])).getD t [])[k]?=some a:=z1
  have z2':((s.st.set (trk.getD i 0) (s.st.getD (trk.getD i 0) []++[i])).getD t [])[k+1]?=some b:=z2;have old:∀{t:Nat},(s.st.getD t [])[k]?=some a->(s.st.getD t [])[k+1]?=some b->∃r w,r<ord.idxOf a/\ord[r]?=some w/\(b<w\/((inn trk s i).gone=r/\iQ ord trk (inn trk s i) (i+1))):=λ{t} y1 y2=>by
   obtain ⟨r,w,h1,h2,h3⟩:=j.adj t k a b y1 y2 z3;rcases h3 with h3 | ⟨h3,w',e1,e2,_⟩
   ·exact {r,w,h1,h2,.inl h3}
   ·exact {r,w,h1,h2,.inr {h3,bl w' e1 e2}}
  rw[hge t] at z1' z2'
  split at z1'
  ·rename_i et
   rw[if_pos et] at z2';rw[getElem?_append] at z1' z2'
   split at z2'
   ·rw[if_pos ()] at z1'
    exact old z1' z2'
   ·rename_i hk
    have hkb:k+1-(s.st.getD (trk.getD i 0) []).length=0/\b=i:=by
     cases q:k+1-(s.st.getD (trk.getD i 0) []).length with
     | zero=>rw[q] at z2';exact {rfl,(Option.some.inj z2').symm}
     | succ d=>rw[q] at z2';simp at z2'
    obtain ⟨hk0,rfl⟩:=hkb
    split at z1'
    ·rename_i hk1
     obtain ⟨h1,h2,h3⟩:=(j.here _ a).mp (mem_of_getElem? z1');have htop:(s.st.getD (trk.getD b 0) []).getLast?=some a:=by
      rw[getLast?_eq_getElem?,show (s.st.getD (trk.getD b 0) []).length-1=k from ()];exact z1'
     have hlt:s.gone<ord.idxOf a:=by
      rcases lt_or_ge s.gone (ord.idxOf a) with q | q
      ·exact q
      ·exfalso
       have ea:s.gone=ord.idxOf a:=()
       have:=O.at_ (p:=a) ();rw[<- ea] at this;unfold Sh.out at no;rw[this] at no;dsimp only at no;rw[h2,if_pos htop] at no;cases no
     have hgl:s.gone<ord.length:=Nat.lt_of_lt_of_le hlt (List.idxOf_le_length);obtain ⟨w,ew⟩:∃w,ord[s.gone]?=some w:=⟨_,List.getElem?_eq_getElem hgl⟩;refine {s.gone,w,hlt,ew,?_};rcases Nat.lt_trichotomy w b with q | q | q
     ·exact .inr {rfl,bl w ew q}
     ·rw[q] at ew
      have:=O.idx ew;omega
     ·exact .inl q
    ·omega
  ·rename_i et
   rw[if_neg et] at z2';exact old z1' z2'
def ul(O:Ord ord n)(ht:∀p,p<n->trk.getD p 0<many)(o:jZ ord trk s s')(j:J ord trk many n i s)(hg:∀p,p<n->ord.idxOf p<s.gone->p<i):∀p,p<n->ord.idxOf p<s'.gone->p<i:=by
 induction o with
 | refl=>exact hg
 | step o e ih=>
  rename_i s' s'';have j':=j.outs O ht o;intro p hp hlt;unfold Sh.out at e;cases ew:ord[s'.gone]? with
  | none=>rw[ew] at e;cases e
  | some w=>
   rw[ew] at e;dsimp only at e
   split at e
   ·rename_i hl
    cases e
    by_cases z:ord.idxOf p<s'.gone
    ·exact ih p hp z
    ·have hlt':ord.idxOf p<s'.gone+1:=hlt
     have:ord.idxOf p=s'.gone:=()
     have hpw:p=w:=by
      have:=O.at_ hp;rw[‹ord.idxOf p=s'.gone›,ew] at this;exact (Option.some.inj this).symm
     have:=(j'.here (trk.getD w 0) w).mp (List.mem_of_mem_getLast? hl);rw[hpw];exact this.1
   ·cases e
def J.run(O:Ord ord n)(ht:∀p,p<n->trk.getD p 0<many)(r:Run ord trk many i s)(hi:i<=n):J ord trk many n i s/\(∀p,p<n->ord.idxOf p<s.gone->p<i)/\(i=0\/Sh.out ord trk s=none)/\s.gone<=n:=by
 induction r with
 | zero=>
  have hnil:∀t,(List.replicate many ([]:List Nat)).getD t []=[]:=λt=>by
   rw[getD_eq_getElem?_getD,getElem?_replicate]
   split<;>rfl
  refine {{length_replicate,λt p=>?_,λt k a b z=>?_,λt k a b z=>?_},λp _ z=>absurd z (Nat.not_lt_zero _),.inl rfl,zero_le _}
  ·show p∈(List.replicate many ([]:List Nat)).getD t []↔_
   rw[hnil];simp
  ·have z':((List.replicate many ([]:List Nat)).getD t [])[k]?=some a:=z
   rw[hnil] at z';simp at z'
  ·have z':((List.replicate many ([]:List Nat)).getD t [])[k]?=some a:=z
   rw[hnil] at z';simp at z'
 | succ r o no ih=>
  rename_i i s s';obtain ⟨j,hg,hn,hl⟩:=ih ();have no0:Sh.out ord trk s=none:=by
   rcases hn with rfl | hn
   ·cases r
    unfold Sh.out init;cases ord[0]? with
    | none=>rfl
    | some w=>
     dsimp only;rw[if_neg];rw[getD_eq_getElem?_getD,getElem?_replicate]
     split<;>simp
   ·exact hn
  have j1:=j.come O ht () no0 hg;have hg1:∀p,p<n->ord.idxOf p<(inn trk s i).gone->p<i+1:=λp hp z=>Nat.lt_succ_of_lt (hg p hp z);have hg2:=ul O ht o j1 hg1;refine {j1.outs O ht o,hg2,.inr no,?_};clear no hg2
  induction o with
  | refl=>exact hl
  | step o e ih=>
   unfold Sh.out at e
   split at e
   ·cases e
   ·rename_i w ew
    split at e
    ·cases e
     have h1:=(List.getElem?_eq_some_iff.mp ew).1;have h2:ord.length<=n:=by
      have:=List.Nodup.length_le_of_subset O.nd (l₂:=List.range n) λx hx=>mem_range.mpr ((O.mem x).mp hx);rw[length_range] at this;exact this
     show _+1<=n;omega
    ·cases e
def yD(O:Ord ord n)(ht:∀p,p<n->trk.getD p 0<many){s:S}(r:Run ord trk many n s)(h:s.gone<n):
  ∃f c k,ord[s.gone]?=some f/\f<n/\(s.st.getD (trk.getD f 0) [])[k]?=some f/\(s.st.getD (trk.getD f 0) [])[k+1]?=some c/\(∀k'<k,(s.st.getD (trk.getD f 0) [])[k']?≠some f) /\
   f<c/\c<n/\trk.getD c 0=trk.getD f 0/\ord.idxOf f<ord.idxOf c/\∃q w,q<s.gone/\ord[q]?=some w/\c<w:=by
 obtain ⟨j,_,hn,_⟩:=J.run O ht r (Nat.le_refl _);have hlen:ord.length=n:=by
  have h1:ord.length<=n:=by
   have:=List.Nodup.length_le_of_subset O.nd (l₂:=List.range n) λx hx=>mem_range.mpr ((O.mem x).mp hx);rw[length_range] at this;exact this
  have h2:n<=ord.length:=by
   have:=List.Nodup.length_le_of_subset (List.nodup_range (n:=n)) λx hx=>(O.mem x).mpr (mem_range.mp hx);rw[length_range] at this;exact this
  omega
 obtain ⟨f,ef⟩:∃f,ord[s.gone]?=some f:=⟨_,List.getElem?_eq_getElem ()⟩;have hf:=O.lt ef;have idf:=O.idx ef;have hm:f∈s.st.getD (trk.getD f 0) []:=(j.here _ f).mpr ⟨hf,rfl,()⟩;have no:Sh.out ord trk s=none:=hn.resolve_left ();have hnl:(s.st.getD (trk.getD f 0) []).getLast?≠some f:=λz=>by
  unfold Sh.out at no;rw[ef] at no;dsimp only at no;rw[if_pos z] at no;cases no
 have hk:=idxOf_lt_length_iff.mpr hm;have ek:(s.st.getD (trk.getD f 0) [])[(s.st.getD (trk.getD f 0) []).idxOf f]?=some f:=by rw[List.getElem?_eq_getElem hk,List.getElem_idxOf]
 have hk1:(s.st.getD (trk.getD f 0) []).idxOf f+1<(s.st.getD (trk.getD f 0) []).length:=by
  rcases lt_or_ge ((s.st.getD (trk.getD f 0) []).idxOf f+1) (s.st.getD (trk.getD f 0) []).length with q | q
  ·exact q
  ·exfalso
   apply hnl
   rw[getLast?_eq_getElem?,show (s.st.getD (trk.getD f 0) []).length-1=(s.st.getD (trk.getD f 0) []).idxOf f from ()];exact ek
 obtain ⟨c,ec⟩:∃c,(s.st.getD (trk.getD f 0) [])[(s.st.getD (trk.getD f 0) []).idxOf f+1]?=some c:=⟨_,List.getElem?_eq_getElem hk1⟩;have hfc:=j.up _ _ f c ek ec;obtain ⟨c1,c2,c3⟩:=(j.here _ c).mp (mem_of_getElem? ec);have hne:ord.idxOf c≠ord.idxOf f:=λz=>by
  have:=O.inj c1 hf z;omega
 have hlt:ord.idxOf f<ord.idxOf c:=()
 obtain ⟨q,w,h1,h2,h3⟩:=j.adj _ _ f c ek ec hlt;refine {f,c,_,ef,hf,ek,ec,λk' hk' z=>?_,hfc,c1,c2,hlt,q,w,(),h2,?_}
 ·have z':=(List.getElem?_eq_some_iff.mp z)
  obtain ⟨hz,ez⟩:=z';exact absurd ez (by
   have:=List.not_of_lt_findIdx (p:=λx=>x==f) (xs:=s.st.getD (trk.getD f 0) []) (i:=k') (by unfold List.idxOf at hk';exact hk');intro y;rw[y] at this;simp at this)
 ·rcases h3 with h3 | ⟨h3,_⟩
  ·exact h3
  ·omega
end
end Sh
namespace L2
open PySem PySem.Spec PyProof.Rows
structure l4(T:List Int)(ord:List Nat):Prop where
 perm:ord.Perm (List.range T.length)
 up:ord.Pairwise λp q=>T.getD p 0<=T.getD q 0
def l4.ord{T:List Int}{ord:List Nat}(h:l4 T ord):Sh.Ord ord T.length:=⟨h.perm.nodup_iff.mpr List.nodup_range,λp=>by rw[h.perm.mem_iff,mem_range]⟩
def l4.lt{T:List Int}{ord:List Nat}(h:l4 T ord)(hT:T.Nodup)(i j p q:Nat)(hij:i<j)(e1:ord[i]?=some p)(e2:ord[j]?=some q):T.getD p 0<T.getD q 0:=by
 obtain ⟨hi,rfl⟩:=List.getElem?_eq_some_iff.mp e1;obtain ⟨hj,rfl⟩:=List.getElem?_eq_some_iff.mp e2;have hle:=List.pairwise_iff_getElem.mp h.up i j hi hj hij;have hp:=h.ord.lt e1;have hq:=h.ord.lt e2;have hne:T.getD ord[i] 0≠T.getD ord[j] 0:=λz=>by
  rw[getD_eq_getElem?_getD,getD_eq_getElem?_getD,List.getElem?_eq_getElem hp,List.getElem?_eq_getElem hq] at z;have z':T[ord[i]]=T[ord[j]]:=z;have:=(List.getElem_inj hT).mp z';have:=(List.getElem_inj h.ord.nd).mp this;omega
 omega
section
variable {X:Cx} {E:XK}
def yF{vs out:List Value}(hv:vs.length=T.length)(hi:∀(j:Nat) (v:Value),vs[j]?=some v->∃t,v=.int (j:Int) t)(h:KskOut false T vs out):∃ord,l4 T ord/\aq (ord.map λ(p:Nat)=>V.int (p:Int)) out:=by
 obtain ⟨ps,hp,rfl,hs⟩:=h
 let f:Int×Value->Nat:=λp=>match p.2 with | .int i _=>i.toNat | _=>0
 have hmem:∀p∈ps,∃(j:Nat) (t:Tok),p.2=.int (j:Int) t/\j<T.length/\T.getD j 0=p.1/\f p=j:=λp hpm=>by
  have hm:=hp.mem_iff.mp hpm;obtain ⟨j,hj,e⟩:=getElem_of_mem hm;rw[length_zip,hv,min_self] at hj;rw[List.getElem_zip] at e;obtain ⟨t,et⟩:=hi j vs[j] (List.getElem?_eq_getElem ());refine {j,t,?_,hj,?_,?_}
  ·rw[<- e];exact et
  ·rw[getD_eq_getElem?_getD,List.getElem?_eq_getElem hj,<- e];rfl
  ·rw[<- e]
   show (match vs[j] with | .int i _=>i.toNat | _=>0)=j;rw[et];exact toNat_natCast j
 refine {ps.map f,{?_,?_},?_}
 ·have h1:=hp.map f
  have h2:(T.zip vs).map f=List.range T.length:=by
   refine ext_getElem? λk=>?_;rw[getElem?_map]
   by_cases hk:k<T.length
   ·rw[List.getElem?_eq_getElem (by rw[length_zip,hv,min_self];exact hk),getElem?_range hk,List.getElem_zip]
    obtain ⟨t,et⟩:=hi k vs[k] (List.getElem?_eq_getElem ());show some (match vs[k] with | .int i _=>i.toNat | _=>0)=some k;rw[et];exact congrArg some (toNat_natCast k)
   ·rw[getElem?_eq_none_iff.mpr (by rw[length_zip,hv,min_self];omega),getElem?_eq_none_iff.mpr (by rw[length_range];omega)]
    rfl
  rw[h2] at h1;exact h1
 ·rw[pairwise_map]
  refine hs.imp_of_mem λ{p q} hp' hq' hle=>?_;obtain ⟨j,_,_,_,e1,e2⟩:=hmem p hp';obtain ⟨k,_,_,_,e3,e4⟩:=hmem q hq';rw[e2,e4,e1,e3]
  simpa using hle
 ·clear hs hp
  induction ps with
  | nil=>exact .nil
  | cons p r ih=>
   obtain ⟨j,t,e1,_,_,e2⟩:=hmem p mem_cons_self;refine .cons ?_ (ih λq hq=>hmem q (mem_cons_of_mem _ hq));rw[e2];exact ⟨t,e1⟩
def Inv.adopt(I:Inv X pins σ H s)(f:eA X pins H a)(n2:X.s₀.heap.objs.size<=a)
  (ho:s.heap.get? a=some { cls:=.type "list",data:=.seq its.toArray m }) (rv:aq xs its) (hz:xs.length<=sizeLine):Inv X pins σ (upd H a (.lst xs)) s:=by
 have n1:=f.1;refine ⟨I.ok,I.os,I.bare,{I.base.keep,I.base.slot,λb o q n hx=>?_,I.base.there,λb xs q=>ai (I.base.tups b xs q) n1,λb o u q=>ai (I.base.frzs b o u q) n1,λb pl y q=>ai (I.base.tbls b pl y q) n1},I.loc,I.cell,
  by rw[ae f.2.1.symm];exact I.free,λx c e=>by rw[ae (f.2.2.2.2.1 x c e)];exact I.freeC x c e,λp hp=>?_,λb o q=>?_,I.len⟩
 ·rw[ae (λz=>by rw[z,get?_none_of_le n2] at q;cases q)]
  exact I.base.free b o q n hx
 ·obtain ⟨p1,p2,p3⟩:=I.pin p hp
  exact ⟨p1,by rw[ae (f.2.2.2.2.2 p hp)];exact p2,p3⟩
 ·by_cases hb:b=a
  ·subst hb
   rw[aa] at q;cases q;exact ⟨hz,its,m,rv,ho⟩
  ·rw[ae hb] at q
   exact (I.hok b o q).stay (λc v _ r=>r) (λc r=>ai r n1) (λc xs r=>ai r n1) λc ob y r=>ai r n1
def KB(lim:Nat)(P:Addr)(pl:Pos)(q:Str)(j:Nat)(σ:St)(Q:VK)(v:V)(H1:Hp):Prop:=∃(r a:Addr) (T:List Int),v=.ref r/\H1 r=some (.rng 0 T.length)/\σ[j]?=some (some (.ref a))/\H1 a=some (.lst (T.map V.int))/\T.length<=lim/\H1 P=some (.tbl pl q) /\
 ∀(l:Addr) (H':Hp) (ord:List Nat),ag H1 H'->H1 l=none->l4 T ord->H' l=some (.lst (ord.map λ(p:Nat)=>V.int (p:Int)))->Q (.ref l) H'
def C1(lim:Nat)(P:Addr)(pl:Pos)(q:Str)(te:TE)(j:Nat):TE:=λσ H Q=>te σ H (KB lim P pl q j σ Q)
def Bd{P c:Addr}{scope:Scope}{params:Arguments}
  (srt:qE lim) (hlim:lim<=100000) (he:PE X e te) (hr:bi (k+1) X.A) (hcode:X.env.code=.ref c) (C:∀{h:Heap},X.K.In h->PySem.W.CodeHd h c P) (S:CSc X scope [x,y] [none,some j]) (hxl:scope.names.lookup x=some .local) (hyl:scope.names.lookup y=some .free)
  (hco:scope.isCoroutine=false) (hgen:scope.isGenerator=false) (hg:Gl X "sorted") (hm:X.mg "sorted"=none) (hdef:defaultsOf params X.env=([],[]))
  (hbind:∀(cl:List (Str×Addr)) (pm cdv ctv v:Value),bindArgs (PySem.W.kla_fn "<lambda>" (X.env.qual ++ "<lambda>") params (.Subscript (.Name y ypos) (.Name x xpos) spos) scope cl pm cdv ctv) ⟨[v],[]⟩=pure [(x,v)])
  (dx:(x==("__debug__":Str))=false:=by decide) (dx':(x==("__classdict__":Str))=false:=by decide) (dy:(y==("__debug__":Str))=false:=by decide) (dy':(y==("__classdict__":Str))=false:=by decide)
  (hst:starEach [e] X.env=(false,eval e X.env)::starEach [] X.env:=by rfl):
  PE X (.Call (.Name "sorted" p) [e] [⟨some "key",.Lambda params (.Subscript (.Name y ypos) (.Name x xpos) spos) scope lpos,kp⟩] cpos) (C1 lim P lpos (X.env.qual ++ "<lambda>") te j):=by
 intro pins s σ H Q I h;refine wpAny_Call_Name_kw (du I hg hm (u:=.builtin "sorted") (by decide +kernel) ?_);have pa:PA X [e] (rC te tH):=bB he fV hst;have hbt:backTo cpos (starEach [e] X.env)=(false,eval e X.env)::backTo cpos (starEach [] X.env):=by rw[hst];rfl
 refine callWith_kw (thn (pa cpos pins s σ H (λvs H1=>match vs with | [v]=>KB lim P lpos (X.env.qual ++ "<lambda>") j σ Q v H1 | _=>False) I h) λus s1 ⟨vs,H1,I1,r1,q1⟩=>?_) hbt (by rw[hst];rfl)
 match vs,us,r1,q1 with
 | [_],_,.cons rr .nil,⟨r,a,T,ev,hrng,hσ,hT,hz,hP,q⟩=>
  subst ev;cases (show _=Value.ref r from rr);show wpAny _ _ (evalAll [do let v <- eval (.Lambda params (.Subscript (.Name y ypos) (.Name x xpos) spos) scope lpos) X.env;standAt cpos;pure v]) _ _ s1;refine wpAny_evalAll_cons (wpAny_bind (vR I1 hP hcode (C I1.mod.kin) S hdef λf c' oc ws t ctv s2 H2 I2 hH hc' hdc hq=>wpAny_bind (wpAny_standAt (wpAny_pure (wpAny_evalAll_nil ?_)))));show wpAny _ _ (call (.builtin "sorted") [.ref r] [(Str.ofString "key",.ref f)]) _ _ s2;have s12:ag H1 H2:=by
   rcases hH with rfl | ⟨b,hb,rfl⟩
   ·exact ag.refl _
   ·exact ag.upd hb
  refine call_function_entry_kw kind_sorted plain_sorted entry_sorted (ksk_s1 _ _) ?_;unfold Builtin.«sorted»;refine wpAny_bind (m:=checkCount "sorted" 1 1 _) (wpAny_pure ?_);obtain ⟨t1,t2,t3,ern⟩:=(show aE X.prog X.w H2 s2.heap r (.rng 0 T.length) from I2.hok r _ (s12 _ _ hrng));have hn:Builtin.Range.rangeSize 0 (T.length:Int) 1=(T.length:Nat):=by rw[rangeSize_one];split<;>omega
  refine wpAny_bind (o6 (A:=X.A.in1) hr.hd ern (small_one () () () ()) hn () λh3 tk acc hk3 hacc=>?_);have hal:acc.toList.length=T.length:=by rw[length_toList];exact hacc.1
  have hai:∀(i:Nat) (v:Value),acc.toList[i]?=some v->∃t,v=.int (i:Int) t:=λi v e=>by
   obtain ⟨t',e'⟩:=hacc.2 i v (by simpa using e);exact ⟨t',by simpa using e'⟩
  refine wpAny_bind (wpAny_newList ?_ (by rw[hal,sizeLine_eq];omega));have I3:Inv X _ σ H2 { s2 with heap:=h3,toks:=tk }:=I2.kept hk3;have I4:Inv X _ σ H2 { s2 with heap:=h3.push (seqObj "list" acc.toList.toArray 0),toks:=tk }:=I3.kept (t':=tk) λb o e=>get?_push_of_some _ e;have hoL:(h3.push (seqObj "list" acc.toList.toArray 0)).get? h3.objs.size=some (seqObj "list" acc.toList.toArray 0):=get?_push_size _ rfl;have fa:=I3.fpOk (b:=h3.objs.size) (Nat.le_refl _) (I3.hok.fresh (Nat.le_refl _));refine wpAny_bind (wpAny_holding (wpAny_call_entry_kw slot_list_sort {_,hoL,rfl} entry_list_sort ?_ (ksk_l1 _ _)))
  show wpAny (model X.prog X.w) X.A.in1.in1 (Builtin.«list.sort» ⟨[.ref h3.objs.size],[(Str.ofString "key",.ref f)]⟩) _ _ { s2 with heap:=h3.push (seqObj "list" acc.toList.toArray 0),toks:=tk };rw[ksk_t1];refine vQ (kz:=T) I4 hoL fa hal.symm srt hlim () ?_ ?_
  ·intro i v k' ei ek pins' s' hp' I'
   obtain ⟨t',rfl⟩:=hai i v ei;refine wpAny_mono (vS (A:=X.A.in1.in1) (a:=.int (i:Int)) (b:=.ref a) (te:=tOp (yb X.K) (sX 1) (sX 0)) (Qv:=λz H'=>z=.int k'/\H'=H2) I' I'.ok.frames hr.hd hr.depth (hp' _ mem_cons_self) hc' hdc hq S hxl hco hgen (λcdv=>hbind _ _ _ _ _) hσ ⟨t',rfl⟩
    (λs''=>rH rJ (pU (i:=1) rfl (.inr (.inr hyl)) dy dy') (pU (i:=0) rfl (.inl hxl) dx dx') (λ_ _=>rfl)) ?_) (λu s'' ⟨z,H',rz,⟨ez,eH⟩,J⟩=>?_) λ_ _ z=>z
   ·refine ⟨_,rfl,_,rfl,a,_,(i:Int),.int k',rfl,rfl,SqL.of (s12 _ _ hT),am (by rw[getElem?_map,ek];rfl),rfl,rfl⟩
   ·subst ez eH
    exact ⟨rz,J⟩
  ·intro s' out e' J ho hout
   refine {_,rfl,wpAny_pure {_,rfl,?_}};obtain ⟨ord,hord,hvals⟩:=yF hal hai hout;have hol:ord.length=T.length:=by rw[hord.perm.length_eq,length_range]
   have fa':eA X pins H2 h3.objs.size:=⟨fa.1,fa.2.1,fa.2.2.1,fa.2.2.2.1,fa.2.2.2.2.1,λp hp=>fa.2.2.2.2.2 p ((mem_append.mp hp).elim (λz=>mem_append_left _ z) λz=>mem_append_right _ (mem_cons_of_mem _ z))⟩;have J':=J.pin_drop.adopt fa' (Nat.le_trans I3.sz (Nat.le_refl _)) (its:=out.toList) (m:=e') (by simpa using ho) hvals (by rw[length_map,hol,sizeLine_eq];omega);refine {.ref h3.objs.size,_,J',rfl,q _ _ ord (s12.trans (ag.upd fa.1)) (s12.free fa.1) hord aa}
end
structure LmT(K:PySem.W.Frag)(mg:Str->Option Value)(x:Str)(st:Stmt)(ps:List Str)(c P:Addr):Prop where
 ex:∃f fd,Fun K x x st f fd/\mg x=some (.ref f)/\bF K fd ps []/\fd.code=.ref c
 hd:PySem.W.codeHdIn K c P=true
def Fun.okC{P:Program}{w:World}{K:PySem.W.Frag}{mg:Str->Option Value}{base:Heap}{x qual:Str}{st:Stmt}{f c:Addr}{fd:FuncData}{N ps:List Str}{k:Nat}{sp:Sp}(F:Fun K x qual st f fd)(hc:fd.code=.ref c)(S:ak N ps (ah st))(len:∀vs H Q E,sp vs H Q E->vs.length=ps.length)
  (hbody:∀(A:Around) (outer:List Env) (s:Shared) (H:Hp) (vs:List V) (Q:VK) (E:XK),bi k (A.deeper (envOfC qual (ah st) s.heap.objs.size f (.ref c)))->sp vs H Q E->
   ∃t,PSs (jg CX0 P w K mg base N qual (ah st) f (.ref c) A outer s H E).nox (bW st) t/\t { nx:=λ_ H'=>Q .non H',rt:=Q } (start N vs) H):b9 P w K mg base CX0 (k+1) f fd ps sp:=by
 obtain ⟨oc,od,kV,doc,pm,an,cdv,ct,osl,rfl,lk,hcd⟩:=F.ex;have e:cdv=.ref c:=hc;subst e;refine u4 lk hcd S len λA outer s H vs Q E hr hsp=>?_;obtain ⟨t,h,q⟩:=hbody A outer s H vs Q E hr hsp;exact ⟨t,h.nox,q⟩
def yG{P:Program}{w:World}{K:PySem.W.Frag}{mg:Str->Option Value}{base:Heap}{CX:CXT}{k:Nat}{x:Str}{st:Stmt}{ps:List Str}{sp:Sp}{c Pt:Addr}(F:LmT K mg x st ps c Pt)
  (h:∀f fd,Fun K x x st f fd->fd.code=.ref c->b9 P w K mg base CX k f fd ps sp):Ctr P w K mg base CX k x ps sp:=by
 obtain ⟨f,fd,F,hm,hb,hc⟩:=F.ex;exact {f,fd,h f fd F hc,hm,F.kp,hb}
end L2
namespace My
open PySem L2 PyProof.Rows
def um(xs:List V):dv xs (some (-1)) none=xs.drop (xs.length-1):=by
 unfold dv;have e:HT.sIx xs.length 0 (some (-1))=xs.length-1:=by
  show (if (-1:Int)<0 then ((-1:Int)+(xs.length:Int)).toNat else min (-1:Int).toNat xs.length)=_;rw[if_pos (by decide)];omega
 rw[e,HT.sIx_none,take_of_length_le (by simp)]
def mV{α:Type}:∀(l:List α),l.drop (l.length-1)=l.getLast?.toList
 | []=>rfl
 | [a]=>rfl
 | a::b::r=>by
  have:=mV (b::r);rw[List.getLast?_cons_cons];rw[<- this];simp
def sg{c:List Nat}{w:Nat}:(c.getLast?.toList.map λ(p:Nat)=>(p:Int))=[(w:Int)]↔c.getLast?=some w:=by
 cases c.getLast? with
 | none=>simp
 | some v=>
  simp only[Option.toList_some,map_cons,map_nil,Option.some.injEq]
  constructor
  ·intro h
   have:=(List.cons.inj h).1;omega
  ·rintro rfl
   rfl
abbrev au(ord:List Nat):List V:=ord.map λ(p:Nat)=>V.int (p:Int)
def eO(c:List Nat):au c=(c.map λ(p:Nat)=>(p:Int)).map V.int:=by rw[map_map];rfl
def bg.put(h:bg H mv ms)(hne:mv≠a)(hk:∀xs,H a≠some (.tup xs)):bg (upd H a o) mv ms:=by
 obtain ⟨rs,e,p⟩:=h;refine ⟨rs,by rw[ae hne];exact e,Paired.imp (λr m z=>?_) p⟩;unfold MvT at z ⊢;rw[ae (λw=>hk _ (w▸z))];exact z
def ge:∀{l:List Nat},(∀(k a b:Nat),l[k]?=some a->l[k+1]?=some b->a<b)->l.Pairwise (· < ·)
 | [],_=>.nil
 | [a],_=>by simp
 | a::b::r,h=>by
  have ih:=ge (l:=b::r) λk x y h1 h2=>h (k+1) x y (by simpa using h1) (by simpa using h2);rw[pairwise_cons];have hab:=h 0 a b rfl rfl;refine {λx hx=>?_,ih};rcases mem_cons.mp hx with rfl | hx
  ·exact hab
  ·exact lt_trans hab ((pairwise_cons.mp ih).1 x hx)
def vV{ord trk:List Nat}(h:Sh.jZ ord trk s s'):s'.mv.length+s.gone=s.mv.length+s'.gone:=by
 induction h with
 | refl=>rfl
 | step _ e ih=>
  unfold Sh.out at e
  split at e
  ·cases e
  ·split at e
   ·cases e
    show (_++[_]).length+_=_+(_+1);rw[length_append];simp only[length_cons,length_nil];omega
   ·cases e
def mx(l:List Nat):Int:=l.foldl (λm (p:Nat)=>if (p:Int)>m then (p:Int) else m) (-1)
def yH(l:List Nat)(p:Nat):mx (l++[p])=if (p:Int)>mx l then (p:Int) else mx l:=by unfold mx;rw[List.foldl_append];rfl
def vW:∀(l:List Nat) (m:Int),m<=l.foldl (λm (p:Nat)=>if (p:Int)>m then (p:Int) else m) m/\(∀p∈l,(p:Int)<=l.foldl (λm (p:Nat)=>if (p:Int)>m then (p:Int) else m) m) /\
  (l.foldl (λm (p:Nat)=>if (p:Int)>m then (p:Int) else m) m=m\/∃p∈l,l.foldl (λm (p:Nat)=>if (p:Int)>m then (p:Int) else m) m=(p:Int))
 | [],m=>⟨Int.le_refl _,λp hp=>(by cases hp),.inl rfl⟩
 | a::r,m=>by
  have ih:=vW r (if (a:Int)>m then (a:Int) else m);rw[List.foldl_cons];obtain ⟨h1,h2,h3⟩:=ih;have ha:(a:Int)<=(if (a:Int)>m then (a:Int) else m)/\m<=(if (a:Int)>m then (a:Int) else m):=by split<;>omega
  refine {Int.le_trans ha.2 h1,λp hp=>?_,?_}
  ·rcases mem_cons.mp hp with rfl | hp
   ·exact Int.le_trans ha.1 h1
   ·exact h2 p hp
  ·rcases h3 with h3 | ⟨p,hp,e⟩
   ·rw[h3]
    split
    ·exact .inr ⟨a,mem_cons_self,rfl⟩
    ·exact .inl rfl
   ·exact .inr {p,mem_cons_of_mem _ hp,e}
def vX{l:List Nat}{p:Nat}(h:p∈l):(p:Int)<=mx l:=(vW l (-1)).2.1 p h
def Be{l:List Nat}{p:Nat}(h:p∈l):∃q∈l,mx l=(q:Int):=by
 rcases (vW l (-1)).2.2 with e | e
 ·have:=vX h
  have e':mx l=-1:=e;omega
 ·exact e
end My
namespace My
open PySem L2
def mW(T:List Int)(b:Bool)(n:Nat)(ms:List Yd.Mv)(W:List Int):Bool:=match Yd.steps T b (Yd.init n) ms with
 | some st=>decide (st.left=W)
 | none=>false
def jK(hT:T.Nodup)(hm:∀m∈ms,m.2<n)(hp:ns.Perm T)(hs:ns.Pairwise (· <= ·)):mW T b n ms ns=bu T b n (ms.map gOf):=by
 unfold mW;cases e:Yd.steps T b (Yd.init n) ms with
 | none=>exact (jm (by rw[jl hm];exact e)).symm
 | some st=>
  have:=jJ hT (by rw[jl hm];exact e) hp hs;show decide (st.left=ns)=_;rw[Bool.eq_iff_iff,decide_eq_true_iff];exact this
def mX{ord trk:List Nat}{many n i:Nat}{s:Sh.S}(ht:∀p,p<n->trk.getD p 0<many)(hO:Sh.Ord ord n)(h:Sh.Run ord trk many i s)(hi:i<=n):∀m∈s.mv,m.2<many:=by
 have outs:∀{a b:Sh.S},Sh.jZ ord trk a b->(∀m∈a.mv,m.2<many)->∀m∈b.mv,m.2<many:=by
  intro a b o
  induction o with
  | refl=>exact λh=>h
  | step _ e ih=>
   intro h m hm;unfold Sh.out at e
   split at e
   ·cases e
   ·rename_i w ew
    split at e
    ·cases e
     rcases mem_append.mp hm with z | z
     ·exact ih h m z
     ·rw[mem_singleton.mp z]
      exact ht w (hO.lt ew)
    ·cases e
 induction h with
 | zero=>intro m hm;cases hm
 | @succ i s s' h o _ ih=>
  refine outs o λm hm=>?_;rcases mem_append.mp hm with z | z
  ·exact ih () m z
  ·rw[mem_singleton.mp z]
   exact ht i ()
def qG{T:List Int}{ord trk:List Nat}{many n:Nat}{s:Sh.S}(hT:T.Nodup)(hr:l4 T ord)(hn:T.length=n)(ht:∀p,p<n->trk.getD p 0<many)(h:Sh.Run ord trk many n s)(hg:s.gone=ord.length):bu T true many (s.mv.map gOf)=true:=by
 have hO:Sh.Ord ord n:=hn▸hr.ord;have hst:=Sh.Bc (T:=T) (n:=n) h ();have hlt:=mX ht hO h (Nat.le_refl _);rw[<- jK (ns:=(ord.map λp=>T.getD p 0)) hT hlt ?_ ?_]
 ·unfold mW
  rw[hst];show decide ((Sh.yst T ord s n).left=_)=true;refine decide_eq_true ?_;show (ord.take s.gone).map _=_;rw[hg,take_length]
 ·have h1:=hr.perm.map λp=>T.getD p 0
  have h2:(List.range T.length).map (λp=>T.getD p 0)=T:=by
   refine ext_getElem? λi=>?_;rw[getElem?_map]
   by_cases hi:i<T.length
   ·rw[getElem?_range hi,List.getElem?_eq_getElem hi]
    show some (T.getD i 0)=_;rw[getD_eq_getElem?_getD,List.getElem?_eq_getElem hi];rfl
   ·rw[getElem?_eq_none_iff.mpr (by rw[length_range];omega),getElem?_eq_none_iff.mpr ()]
    rfl
  rw[h2] at h1;exact h1
 ·rw[pairwise_map]
  exact hr.up
end My
namespace L2
open PySem PySem.Spec PyProof.Rows
section
variable {κ:Type} [DecidableEq κ]
def dh(kvs:List (κ×V))(k:κ):Option V:=(kvs.find? λkv=>decide (kv.1=k)).map (·.2)
def hV(kvs:List (κ×V))(k:κ)(v:V):List (κ×V):=
 if (kvs.any λkv=>decide (kv.1=k))=true then kvs.map (λkv=>if kv.1=k then (kv.1,v) else kv) else kvs++[(k,v)]
def bv{p:κ×V}{r:List (κ×V)}{k:κ}(e:p.1=k):dh (p::r) k=some p.2:=by simp[dh,find?_cons,e]
def bw{p:κ×V}{r:List (κ×V)}{k:κ}(e:¬ p.1=k):dh (p::r) k=dh r k:=by simp[dh,find?_cons,e]
def gf(k:κ):∀kvs:List (κ×V),(kvs.any λkv=>decide (kv.1=k))=(dh kvs k).isSome
 | []=>rfl
 | p::r=>by
  rw[any_cons]
  by_cases e:p.1=k
  ·simp only[bv e,decide_eq_true e,Bool.true_or,Option.isSome_some]
  ·rw[bw e,decide_eq_false e,Bool.false_or];exact gf k r
def o9(k j:κ)(y:V):∀kvs:List (κ×V),dh (kvs.map λkv=>if kv.1=k then (kv.1,y) else kv) j=(dh kvs j).map λx=>if j=k then y else x
 | []=>rfl
 | p::r=>by
  have ih:=o9 k j y r;rw[map_cons]
  by_cases h:p.1=k
  ·rw[if_pos h]
   by_cases e:p.1=j
   ·rw[bv (p:=(p.1,y)) e,bv e,map_some,if_pos (e.symm.trans h)]
   ·rw[bw (p:=(p.1,y)) e,bw e,ih]
  ·rw[if_neg h]
   by_cases e:p.1=j
   ·rw[bv (p:=p) e,bv e,map_some,if_neg (λz=>h (e.trans z))]
   ·rw[bw (p:=p) e,bw e,ih]
def mY(k j:κ)(y:V):∀kvs:List (κ×V),dh kvs k=none->dh (kvs++[(k,y)]) j=if j=k then some y else dh kvs j
 | [],_=>by
  by_cases e:k=j
  ·rw[if_pos e.symm];exact bv (p:=(k,y)) e
  ·rw[if_neg (λz=>e z.symm)];exact bw (p:=(k,y)) e
 | p::r,hn=>by
  rw[List.cons_append];have hk:¬ p.1=k:=λz=>by rw[bv z] at hn;cases hn
  rw[bw hk] at hn;have ih:=mY k j y r hn
  by_cases e:p.1=j
  ·rw[bv e,bv e,if_neg (λz=>hk (e.trans z))]
  ·rw[bw e,bw e,ih]
def vY(kvs:List (κ×V))(k j:κ)(y:V):dh (hV kvs k y) j=if j=k then some y else dh kvs j:=by
 unfold hV
 by_cases a:(kvs.any λkv=>decide (kv.1=k))=true
 ·rw[if_pos a,o9]
  rw[gf] at a
  by_cases e:j=k
  ·obtain ⟨x,hx⟩:=Option.isSome_iff_exists.mp a
   rw[if_pos e,e,hx,map_some,if_pos rfl]
  ·rw[if_neg e]
   cases dh kvs j with
   | none=>rfl
   | some x=>rw[map_some,if_neg e]
 ·rw[if_neg a]
  refine mY k j y kvs ?_;rw[gf] at a;cases q:dh kvs k with
  | none=>rfl
  | some x=>rw[q] at a;exact (a rfl).elim
def jL(kvs:List (κ×V))(k:κ)(v:V):(hV kvs k v).length<=kvs.length+1:=by
 unfold hV
 split
 ·rw[length_map];omega
 ·rw[length_append,length_cons,length_nil];omega
def vZ{kvs:List (κ×V)}{k:κ}(v:V)(h:dh kvs k=none):hV kvs k v=kvs++[(k,v)]:=by
 unfold hV;rw[gf,h];exact if_neg (by decide)
def fS.isSome_eq(r:fS o u):o.isSome=u.isSome:=by
 cases o with
 | none=>cases u with
  | none=>rfl
  | some _=>exact (show False from r).elim
 | some _=>cases u with
  | none=>exact (show False from r).elim
  | some _=>rfl
def KV.val{kvs:List (κ×V)}{vs:List (κ×Value)}(r:KV kvs vs)(k:κ):fS (dh kvs k) (valueAt vs k):=by
 unfold KV at r
 induction r with
 | nil=>exact True.intro
 | @cons p q ps qs h t ih=>
  obtain ⟨h1,h2⟩:=h
  by_cases e:p.1=k
  ·have e':q.1=k:=h1.symm.trans e
   have b:valueAt (q::qs) k=some q.2:=by simp[valueAt,find?_cons,e']
   rw[bv e,b];exact h2
  ·have e':¬ q.1=k:=λz=>e (h1.trans z)
   have b:valueAt (q::qs) k=valueAt qs k:=by simp[valueAt,find?_cons,e']
   rw[bw e,b];exact ih
def KV.any(r:KV kvs vs)(k:κ):(kvs.any λkv=>decide (kv.1=k))=vs.any λkv=>decide (kv.1=k):=by
 unfold KV at r
 induction r with
 | nil=>rfl
 | cons h t ih=>rw[any_cons,any_cons,ih,h.1]
def KV.repl(r:KV kvs vs)(k:κ)(ry:av y u):
  KV (kvs.map λkv=>if kv.1=k then (kv.1,y) else kv) (vs.map λkv=>if kv.1=k then (kv.1,u) else kv):=by
 unfold KV at r ⊢
 induction r with
 | nil=>exact .nil
 | @cons p q ps qs h t ih=>
  rw[map_cons,map_cons];refine .cons ?_ ih;obtain ⟨h1,h2⟩:=h
  by_cases e:p.1=k
  ·rw[if_pos e,if_pos (h1.symm.trans e)];exact ⟨h1,ry⟩
  ·rw[if_neg e,if_neg (λz=>e (h1.trans z))];exact ⟨h1,h2⟩
def KV.put(r:KV kvs vs)(k:κ)(ry:av y u):KV (hV kvs k y) (stored vs k u):=by
 unfold hV stored;rw[r.any k]
 by_cases e:(vs.any λkv=>decide (kv.1=k))=true
 ·rw[if_pos e,if_pos e];exact r.repl k ry
 ·rw[if_neg e,if_neg e];exact Paired.snoc r ⟨rfl,ry⟩
def KV.length(r:KV kvs vs):kvs.length=vs.length:=Paired.length r
end
def si{P:Program}{w:World}(r:av (kV k) u):(bo P w).is k u=true:=by
 cases k with
 | inl i=>obtain ⟨t,e⟩:=(show ∃t,u=Value.int i t from r);subst e;exact oi P w i t
 | inr x=>obtain ⟨t,e⟩:=(show ∃t,u=Value.str x t from r);subst e;exact oj P w x t
def mZ{P:Program}{w:World}:∀{ks:List Key} {us:List Value},aq (ks.map kV) us->ItemsAre (bo P w) ks us
 | [],_,r=>by rw[map_nil] at r;cases r;exact .nil
 | k::ks,_,r=>by
  rw[map_cons] at r;cases r with
  | cons h t=>exact .cons (si h) (mZ t)
abbrev KT(H:Hp):List (List Key×V)->List (List Key×Addr×Value)->Prop:=Paired λp q=>p.1=q.1/\H q.2.1=some (.tup (p.1.map kV))/\av p.2 q.2.2
def KT.val{H:Hp}{kvs:List (List Key×V)}{xs:List (List Key×Addr×Value)}(r:KT H kvs xs)(k:List Key):fS (dh kvs k) ((atKey xs k).map (·.2)):=by
 induction r with
 | nil=>exact True.intro
 | @cons p q ps qs h t ih=>
  obtain ⟨h1,_,h2⟩:=h
  by_cases e:p.1=k
  ·have e':q.1=k:=h1.symm.trans e
   have b:atKey (q::qs) k=some q.2:=by simp[atKey,find?_cons,e']
   rw[bv e,b];exact h2
  ·have e':¬ q.1=k:=λz=>e (h1.trans z)
   have b:atKey (q::qs) k=atKey qs k:=by simp[atKey,find?_cons,e']
   rw[bw e,b];exact ih
def KT.repl(r:KT H kvs xs)(k:List Key)(ry:av y u):
  KT H (kvs.map λkv=>if kv.1=k then (kv.1,y) else kv) (xs.map (putAt k u)):=by
 induction r with
 | nil=>exact .nil
 | @cons p q ps qs h t ih=>
  rw[map_cons,map_cons];refine .cons ?_ ih;obtain ⟨h1,h2,h3⟩:=h;unfold putAt
  by_cases e:p.1=k
  ·rw[if_pos e,if_pos (h1.symm.trans e)];exact ⟨h1,h2,ry⟩
  ·rw[if_neg e,if_neg (λz=>e (h1.trans z))];exact ⟨h1,h2,h3⟩
def KT.put(r:KT H kvs xs)(k:List Key)(hb:H b=some (.tup (k.map kV)))(ry:av y u):
  KT H (hV kvs k y) (storedH xs k b u):=by
 have e:(kvs.any λkv=>decide (kv.1=k))=(atKey xs k).isSome:=by
  rw[gf,(r.val k).isSome_eq,Option.isSome_map]
 unfold hV storedH;rw[e]
 by_cases q:(atKey xs k).isSome=true
 ·rw[if_pos q,if_pos q];exact r.repl k ry
 ·rw[if_neg q,if_neg q];exact Paired.snoc r ⟨rfl,hb,ry⟩
def KT.keeps(r:KT H kvs xs)(ht:∀b ys,H b=some (.tup ys)->H' b=some (.tup ys)):KT H' kvs xs:=
 Paired.mapP r λ_ _ z=>⟨z.1,ht _ _ z.2.1,z.2.2⟩
section
variable {P:Program} {w:World} {H:Hp} {h:Heap} {a:Addr}
def zN(ok:HOk P w H h)(e:Rd H a u):aE P w H h a u:=e.ok ok
def sj(ok:HOk P w H h)(e:Rd H a (.dK kvs)):kvs.length<=sizeLine/\(a==sysModules)=false/\∃vs,KV kvs vs/\h.DictOf (bo P w) a vs:=
 show aE P w H h a (.dK kvs) from zN ok e
def Cm(ok:HOk P w H h)(e:H a=some (.dK kvs)):kvs.length<=sizeLine/\(a==sysModules)=false/\∃vs,KV kvs vs/\h.DictOf (bo P w) a vs:=sj ok (.inl e)
def nQ(ok:HOk P w H h)(e:H a=some (.tup (ks.map kV))):(tupleKind (bo P w)).is h ks a:=by
 obtain ⟨_,its,r,o,h1,h2,n,h3⟩:=(show aE P w H h a (.tup (ks.map kV)) from ok a _ e);exact ⟨o,its.toArray,n,h1,h2,h3,by simpa using mZ r⟩
def sr(ok:HOk P w H h)(e:Rd H a (.dT kvs)):kvs.length<=sizeLine/\(a==sysModules)=false /\
  ∃xs,KT H kvs xs/\h.DictOfH (tupleKind (bo P w)) a xs:=by
 obtain ⟨z,y,xs,r,o,es,ep,h1,h2,h3,h4,h5⟩:=(show aE P w H h a (.dT kvs) from zN ok e);refine {z,y,xs,r,o,es,ep,h1,h2,h3,h4,λx hx=>?_,h5};have all:∀{l:List (List Key×V)} {m:List (List Key×Addr×Value)},KT H l m->∀x∈m,(tupleKind (bo P w)).is h x.1 x.2.1:=by
  intro l m q
  induction q with
  | nil=>intro x hx;exact nomatch hx
  | @cons p q ps qs hq t ih=>
   intro x hx;rcases mem_cons.mp hx with e | hx
   ·subst e
    exact nQ ok (by rw[<- hq.1];exact hq.2.1)
   ·exact ih x hx
 exact all r x hx
def Cn(ok:HOk P w H h)(e:H a=some (.dT kvs)):kvs.length<=sizeLine/\(a==sysModules)=false /\
  ∃xs,KT H kvs xs/\h.DictOfH (tupleKind (bo P w)) a xs:=sr ok (.inl e)
end
def nR(H:Hp)(a:Addr)(y:V)(r:Option V):Prop:=
 (∃kvs k,Rd H a (.dK kvs)/\y=kV k/\r=dh kvs k)\/∃kvs k b,Rd H a (.dT kvs)/\y=.ref b/\H b=some (.tup (k.map kV))/\r=dh kvs k
def v0(H:Hp)(a:Addr)(y v:V)(H':Hp):Prop:=
 (∃kvs k,H a=some (.dK kvs)/\y=kV k/\kvs.length<sizeLine/\H'=upd H a (.dK (hV kvs k v))) \/
 ∃kvs k b,H a=some (.dT kvs)/\y=.ref b/\H b=some (.tup (k.map kV))/\kvs.length<sizeLine/\H'=upd H a (.dT (hV kvs k v))
def nR.k{H:Hp}{a:Addr}{kvs:List (Key×V)}{k:Key}(e:H a=some (.dK kvs)):nR H a (kV k) (dh kvs k):=.inl ⟨kvs,k,.inl e,rfl,rfl⟩
def v0.k{H:Hp}{a:Addr}{kvs:List (Key×V)}{k:Key}{v:V}(e:H a=some (.dK kvs))(hl:kvs.length<sizeLine):v0 H a (kV k) v (upd H a (.dK (hV kvs k v))):=.inl ⟨kvs,k,e,rfl,hl,rfl⟩
section
variable {X:Cx} {pins:List (Addr×Obj)} {σ:St} {H:Hp} {s:Shared} {a:Addr} {y v:V} {u r:Value} {o:Option V} {A:Around} {E:Value->Shared->Prop}
def Inv.big(I:Inv X pins σ H s):sysModules<s.heap.objs.size:=by
 have h:mainGlobals<s.heap.objs.size:=(I.mod.glob.keeps I.bk).lt;exact lt_trans (by decide) h
def uo(hu:A.units+1<cLine)(I:Inv X pins σ H s)(g:nR H a y (some v))(ry:av y u)(h:∀w' s',Inv X pins σ H s'->av v w'->Q w' s'):
  wpAny (model X.prog X.w) A (getItem (.ref a) u) Q E s:=by
 rcases g with ⟨kvs,k,e,ey,l⟩ | ⟨kvs,k,b,e,ey,eb,l⟩
 ·subst ey
  obtain ⟨z,hd,vs,rel,dd⟩:=sj I.hok e;obtain ⟨w',hw,rw'⟩:=fS.some_of (v:=v) (o:=valueAt vs k) (by rw[l];exact rel.val k);exact wpAny_getItem_of (si ry) dd.mapOf hw (h w' _ (I.tok _) rw')
 ·subst ey
  cases (show u=Value.ref b from ry);obtain ⟨z,hd,xs,rel,dd⟩:=sr I.hok e;obtain ⟨w',hw,rw'⟩:=fS.some_of (v:=v) (o:=(atKey xs k).map (·.2)) (by rw[l];exact rel.val k);obtain ⟨p,hp,hp2⟩:=map_eq_some_iff.mp hw;refine wpAny_getItem_heap (tupleKind_room_in1 hu) (nQ I.hok eb) dd hp ?_;rw[hp2];exact h w' _ (I.tok _) rw'
def yI(hu:A.units+1<cLine)(I:Inv X pins σ H s)(g:nR H a y o)(ry:av y u)(h:∀s',Inv X pins σ H s'->Q (.bool (!o.isSome)) s'):
  wpAny (model X.prog X.w) A (compareOp .NotIn u (.ref a)) Q E s:=by
 rcases g with ⟨kvs,k,e,ey,l⟩ | ⟨kvs,k,b,e,ey,eb,l⟩
 ·subst ey
  obtain ⟨z,hd,vs,rel,dd⟩:=sj I.hok e;refine wpAny_notIn_of (si ry) hd dd.mapOf ?_;rw[<- (rel.val k).isSome_eq,<- l];exact h _ (I.tok _)
 ·subst ey
  cases (show u=Value.ref b from ry);obtain ⟨z,hd,xs,rel,dd⟩:=sr I.hok e;refine wpAny_notIn_heap (tupleKind_room_in1 hu) (nQ I.hok eb) hd dd ?_;have q:=(rel.val k).isSome_eq;rw[Option.isSome_map] at q;rw[<- q,<- l];exact h _ (I.tok _)
def ss{t':Nat}(I:Inv X pins σ H s)(mu:Mut (H a))(hs:Heap.SameBut a s.heap h')(he:∃q,h'.get? a=some q)(new:aE X.prog X.w (upd H a ob) h' a ob):
  Inv X pins σ (upd H a ob) { s with heap:=h',toks:=t' }:=
 I.write (x:=a) (e:=a) mu (.inl rfl) (λb q hb z=>(hs.2 b hb).trans z) he new
def Bf{P:Program}{w:World}(z:kvs.length<=sizeLine)(hd:(a==sysModules)=false)(rel:KV kvs vs)(dd:h'.DictOf (bo P w) a vs):
  aE P w H' h' a (.dK kvs):=⟨z,hd,vs,rel,dd⟩
def uq(hu:A.units+1<cLine)(I:Inv X pins σ H s)(g:v0 H a y v H')(ry:av y u)(rv:av v r)(h:∀s',Inv X pins σ H' s'->Q Unit.unit s'):
  wpAny (model X.prog X.w) A (setItem (.ref a) u r) Q E s:=by
 rcases g with ⟨kvs,k,e,ey,l,eH⟩ | ⟨kvs,k,b,e,ey,eb,l,eH⟩
 ·subst ey eH
  obtain ⟨z,hd,vs,rel,dd⟩:=Cm I.hok e;have hz:vs.length<=sizeLine:=by rw[<- rel.length];exact z
  have hl:(hV kvs k v).length<=sizeLine:=by have:=jL kvs k v;omega
  refine wpAny_setItem_pairs (hsz:=hz) (si ry) dd λh' dd' hs=>h _ ?_;have he:∃q,h'.get? a=some q:=let ⟨q,_,_,hq,_⟩:=dd';⟨q,hq⟩;exact ss I (by rw[e];exact True.intro) hs he (Bf hl hd (rel.put k rv) dd')
 ·subst ey eH
  cases (show u=Value.ref b from ry);obtain ⟨z,hd,xs,rel,dd⟩:=Cn I.hok e;have hz:xs.length<=sizeLine:=by rw[<- Paired.length rel];exact z
  have hl:(hV kvs k v).length<=sizeLine:=by have:=jL kvs k v;omega
  refine wpAny_setItem_heap (hsz:=hz) (tupleKind_room_in1 hu) (nQ I.hok eb) dd λh' dd' hs=>h _ ?_;obtain ⟨q,es,ep,hq,h2,h3,h4,_,h5⟩:=dd';refine ss I (by rw[e];exact True.intro) hs ⟨q,hq⟩ ⟨hl,hd,_,(rel.put k eb rv).keeps λc ys ec=>?_,q,es,ep,hq,h2,h3,h4,h5⟩;rw[ae (aN ec e (λz=>nomatch z))];exact ec
end
section
variable {X:Cx} {pins:List (Addr×Obj)} {σ:St} {H:Hp} {s:Shared} {a:Addr} {kvs:List (Key×V)} {k:Key} {u:Value} {A:Around} {E:Value->Shared->Prop}
end
def Co(i:Expr):Prop:=∀ov iv,subscripted i false ov iv=operate [ov,iv] (getItem ov iv)
def yJ{prog:Program}{w:World}{A:Around}{E:Value->Shared->Prop}{s:Shared}{env:Env}{value slice:Expr}{pos:Pos}{T id:String}{Q:Value->Shared->Prop}
  (hl:typeLookup (.type T) "__getitem__"=pure (some (.builtin id))) (hs:Co slice)
  (h:wpAny (model prog w) A (eval value env) (λo s₁=>wpAny (model prog w) A (eval slice env) (λi s₂=>s₂.TypeIs o T/\wpAny (model prog w) A (getItem o i) Q E s₂) E s₁) E s):
  wpAny (model prog w) A (eval (.Subscript value slice pos) env) Q E s:=by
 refine Subscript_ (wpAny_mono h (λo s₁ h₁=>wpAny_mono h₁ (λi s₂ h₂=>?_) λ_ _ x=>x) λ_ _ x=>x);obtain ⟨hT,h₂⟩:=h₂;unfold subscriptTail;refine wpAny_bind ?_;rw[getitemInPython_of_ne hT.not_modules];refine wpAny_bind (wpAny_specialOf hT hl ?_);have fin:wpAny (model prog w) A (subscripted slice false o i) (λr s₃=>wpAny (model prog w) A (letTemporaryGo value o r >>= λ_=>pure r) Q E s₃) E s₂:=by
  rw[hs o i];exact wpAny_operating (wpAny_mono h₂ (λr s₃ h₃=>wpAny_bind (wpAny_letTemporaryGo (wpAny_pure h₃))) λ_ _ x=>x)
 first
  | exact wpAny_pure (wpAny_bind fin)
  | exact wpAny_bind (wpAny_pure (wpAny_bind fin))
  | exact wpAny_bind fin
def pc(I:Inv X pins σ H s)(g:nR H a y o):s.TypeIs (.ref a) "dict":=by
 rcases g with ⟨kvs,k,e,_,_⟩ | ⟨kvs,k,b,e,_,_,_⟩
 ·obtain ⟨_,_,vs,_,dd⟩:=sj I.hok e
  exact dd.typeIs
 ·obtain ⟨_,_,xs,_,dd⟩:=sr I.hok e
  exact dd.typeIs
def Cp(td ty:TE):TE:=λσ H Q=>td σ H λx H1=>ty σ H1 λy H2=>∃a v,x=.ref a/\nR H2 a y (some v)/\Q v H2
def yK(ty td:TE):TE:=λσ H Q=>ty σ H λy H1=>td σ H1 λx H2=>∃a o,x=.ref a/\nR H2 a y o/\Q (.bl (!o.isSome)) H2
def Cq(td ty tv:TE):TS:=λD σ H=>tv σ H λv H1=>td σ H1 λx H2=>ty σ H2 λy H3=>∃a H4,x=.ref a/\v0 H3 a y v H4/\D.nx σ H4
section
variable {X:Cx} {o i e value:Expr} {pos pos' tpos:Pos} {td ty tv:TE}
def yL(hu:X.A.units+1<cLine)(ho:PE X o td)(hi:PE X i ty)(hs:Co i):PE X (.Subscript o i pos) (Cp td ty):=by
 intro pins s σ H Q I h;refine yJ PySem.F.slot_dict_getitem.lookup hs (thn (ho pins s σ H _ I h) λu s1 ⟨x,H1,I1,rx,q1⟩=>thn (hi pins s1 σ H1 _ I1 q1) λiv s2 ⟨y,H2,I2,ry,a,v,ex,g,q2⟩=>?_);subst ex;obtain rfl:u=Value.ref a:=rx;exact {pc I2 g,uo hu I2 g ry λw' s3 I3 rw'=>⟨v,H2,I3,rw',q2⟩}
def m7(hu:X.A.units+1<cLine)(hi:PE X i ty)(ho:PE X o td):PC X .NotIn i o (yK ty td):=by
 intro pins s σ H Q I h;refine thn (hi pins s σ H _ I h) λiv s1 ⟨y,H1,I1,ry,q1⟩=>thn (ho pins s1 σ H1 _ I1 q1) λu s2 ⟨x,H2,I2,rx,a,ov,ex,g,q2⟩=>?_;subst ex;obtain rfl:u=Value.ref a:=rx;exact yI hu I2 g ry λs3 I3=>{.bl (!ov.isSome),H2,I3,rfl,q2}
def yM(hu:X.A.units+1<cLine)(ho:PE X o td)(hi:PE X i ty)(hv:PE X value tv)(hs:swapsWith value (some (.Subscript o i pos')) pos.line X.env=pure false):
  PS X (.Assign [.Subscript o i pos'] value pos) (Cq td ty tv):=by
 intro pins s σ H D I h;refine wpAny_Assign_Subscript (thn (hv pins s σ H _ I h) λr s1 ⟨v,H1,I1,rv,q1⟩=>thn (ho pins s1 σ H1 _ I1 q1) λu s2 ⟨x,H2,I2,rx,q2⟩=>thn (hi pins s2 σ H2 _ I2 q2) λiv s3 ⟨y,H3,I3,ry,a,H4,ex,g,q3⟩=>?_) hs;subst ex;obtain rfl:u=Value.ref a:=rx;exact uq hu I3 g ry rv λs4 I4=>⟨σ,H4,I4,q3⟩
end
def v8{P:Program}{w:World}(h:Heap)(hb:sysModules<h.objs.size):aE P w H (h.push { cls:=.type "dict",data:=.dict #[] }) h.objs.size (.dK []):=
 ⟨zero_le _,beq_eq_false_iff_ne.mpr (Ne.symm (Nat.ne_of_lt hb)),[],.nil,Heap.DictOf.new h⟩
def Bg:TE:=λ_ H Q=>∀p,H p=none->Q (.ref p) (upd H p (.dK []))
section
variable {X:Cx} {pos:Pos}
def wa:PE X (.Dict [] [] pos) Bg:=λpins s σ H Q I h=>
 wpAny_Dict_empty ⟨.ref s.heap.objs.size,_,I.laid (a:=s.heap.objs.size) (o:=.dK []) (t':=s.toks) (λ_ _ q=>get?_push_of_some _ q) (Nat.le_refl _) (v8 s.heap I.big),rfl,h _ (I.hok.fresh (Nat.le_refl _))⟩
end
section
variable {X:Cx} {pins:List (Addr×Obj)} {σ:St} {H:Hp} {s:Shared} {a:Addr} {y d:V} {u r:Value} {o:Option V} {A:Around} {E:Value->Shared->Prop}
end
section
variable {X:Cx} {o e f:Expr} {apos cpos:Pos} {td ty tx:TE}
end
section
variable {X:Cx} {pins:List (Addr×Obj)} {σ:St} {H:Hp} {s:Shared} {a:Addr} {kvs:List (Key×V)} {A:Around} {E:Value->Shared->Prop}
end
section
variable {X:Cx} {pins:List (Addr×Obj)} {σ:St} {H:Hp} {s:Shared} {a:Addr} {y:V} {u:Value} {A:Around} {E:Value->Shared->Prop}
end
section
variable {X:Cx}
end
section
variable {κ:Type} [DecidableEq κ]
end
section
variable {X:Cx} {K:PySem.W.Frag} {pins:List (Addr×Obj)} {σ:St} {H:Hp} {s:Shared} {k:Nat} {x m:Str} {C:Addr} {ps:List Str} {sp:Sp} {p pos apos:Pos} {e o:Expr} {es:List Expr} {ta:TE} {t:TA} {tx:TX} {CX:CXT} {E:XK}
def m8(he:PE X o ta)(c:df X.prog X.w X.K X.mg X.base CX k C m ps sp)(hr:bi k X.A)(ha:PA X (e::es) t)(hx:eB CX X E)
  (hst:starEach (e::es) X.env=(false,eval e X.env)::starEach es X.env:=by rfl) (hpl:(backTo pos (starEach es X.env)).any (·.1)=false:=by rfl)
  (ht:eval (.Call (.Attribute o m apos) (e::es) [] pos) X.env=(do
   let ov <- eval o X.env
   standAt apos.atName
   let (f,first) <- holding [ov] (getMethod ov m pl)
   callWith pos f first (backTo pos (starEach (e::es) X.env)) (backToKw pos (keywordEach [] X.env))):=by rfl):
  PE X (.Call (.Attribute o m apos) (e::es) [] pos) (oy C m sp [] E ta t):=by
 obtain ⟨f,fd,F,hm,hb⟩:=c.ex;exact rD (pl:=pl) he c.cl hm F hr hb .nil hx ha hst hpl ht
def Bh(C:Addr)(m:Str)(sp:Sp)(ta:TE)(te:TX):TX:=λσ H Q E=>ta σ H λx H1=>∃a dx fs,x=.ref a/\H1 a=some (.ins C dx fs)/\fs.lookup m=none/\te σ H1 (λv H2=>sp [x,v] H2 Q E) E
def yN(he:PE X.nox o ta)(c:df X.prog X.w X.K X.mg X.base (CXe X.prog X.w) k C m ps sp)(hr:bi k X.A)(ha:PX X e te)
  (hst:starEach [e] X.env=(false,eval e X.env)::starEach [] X.env:=by rfl) (hpl:(backTo pos (starEach [] X.env)).any (·.1)=false:=by rfl)
  (ht:eval (.Call (.Attribute o m apos) [e] [] pos) X.env=(do
   let ov <- eval o X.env
   standAt apos.atName
   let (f,first) <- holding [ov] (getMethod ov m pl)
   callWith pos f first (backTo pos (starEach [e] X.env)) (backToKw pos (keywordEach [] X.env))):=by rfl):
  PX X (.Call (.Attribute o m apos) [e] [] pos) (Bh C m sp ta te):=by
 intro pins s σ H Q E I h;obtain ⟨f,fd,F,hm,hb⟩:=c.ex;refine methodCall_KW (pl:=pl) (wpAny_mono (he pins s σ H _ (I.wish _) h) (λu s1 ⟨x,H1,I1,rx,a,dx,fs,ex,ea,l,q⟩=>?_) λ_ _ z=>False.elim z) ht;subst ex;obtain rfl:u=Value.ref a:=rx;have I1:Inv X pins σ H1 s1:=I1.unwish;refine iu I1 ea c.cl hm l ?_;refine callWith_K (first:=[.ref a]) (h₀:=X.base) I.ok.mod.kin hm.kp ?_ hst hpl;rw[hst];show wpAny _ _ (spliced ((false,eval e X.env)::backTo pos (starEach [] X.env))) _ _ s1;refine Calls.spliced_cons (thn (ha pins s1 σ H1 _ E I1 q) λu s2 ⟨y,H2,I2,r2,q2⟩=>?_);exact Calls.spliced_nil {I2.kIn,CZ (us:=[.ref a,u]) (vs:=[.ref a,y]) F hr hb I2 (.cons rfl (.cons r2 .nil)) q2}
def Bi(te:TE):TX:=λσ H Q _=>te σ H Q
def wb(h:PE X.nox e te):PX X e (Bi te):=λpins s σ H Q E I q=>
 wpAny_mono (h pins s σ H Q (I.wish _) q) (λu s1 ⟨v,H1,I1,r⟩=>⟨v,H1,I1.unwish,r⟩) λ_ _ z=>False.elim z
def Cr(K:PySem.W.Frag)(Y Y':Addr)(tb:TSX)(th th':Addr->TS):TS:=λD σ H=>tb D σ H λcls od H1=>∃C,cls=.ref C/\(∀d,od=some d->∃u,H1 d=some u) /\
 ((PySem.W.mroIn K C (.ref Y)=some true/\∀ea,H1 ea=none->th ea D σ (upd H1 ea (XH ea C od))) \/
  (PySem.W.mroIn K C (.ref Y)=some false/\PySem.W.mroIn K C (.ref Y')=some true/\∀ea,H1 ea=none->th' ea D σ (upd H1 ea (XH ea C od))))
def yO{st b₀ b₁:Stmt}{suite suite':List Stmt}{y y':Str}{Y Y':Addr}{np np' hpos hpos':Pos}{tb:TSX}{th th':Addr->TS}(hK:X.K=K)(hs:X.stack=X.env::X.outer)(hl:X.env.frame=some X.env.locals)(hst:PSX X st tb)
  (hg:Gl X y) (hm:X.mg y=some (.ref Y)) (hY:Xc.XC K Y) (tY:PySem.W.typeIn K (.ref Y)=some (.type "type"))
  (hg':Gl X y') (hm':X.mg y'=some (.ref Y')) (hY':Xc.XC K Y') (tY':PySem.W.typeIn K (.ref Y')=some (.type "type"))
  (hh:∀ea,PSs (X.held ea) (b₀::suite) (th ea)) (hh':∀ea,PSs (X.held ea) (b₁::suite') (th' ea)) (hdb:(y==("__debug__":Str))=false:=by decide) (hdb':(y'==("__debug__":Str))=false:=by decide):
  PS X (.Try [st] [.ExceptHandler (some (.Name y np)) none (b₀::suite) hpos,.ExceptHandler (some (.Name y' np')) none (b₁::suite') hpos'] [] [] pos) (Cr K Y Y' tb th th'):=by
 subst hK;intro pins s σ H D I h;have hbody:wpAny (model X.prog X.w) X.A (execs [st] X.env) (SP X pins D) (oO X pins σ λcls od H1=>∃C,cls=.ref C/\(∀d,od=some d->∃u,H1 d=some u) /\
   ((PySem.W.mroIn X.K C (.ref Y)=some true/\∀ea,H1 ea=none->th ea D σ (upd H1 ea (XH ea C od))) \/
    (PySem.W.mroIn X.K C (.ref Y)=some false/\PySem.W.mroIn X.K C (.ref Y')=some true/\∀ea,H1 ea=none->th' ea D σ (upd H1 ea (XH ea C od))))) s:=by
  refine wpAny_execs_cons (thn (hst pins s σ H D _ I h) λf s1 q=>?_);cases f with
  | next=>exact wpAny_execs_nil q
  | ret v=>exact q
  | brk=>exact q
  | cont=>exact q
 refine wpAny_Try_except (wpAny_mono hbody (λf s1 q=>?_) λe s1 hxx=>?_)
 ·cases f with
  | next=>exact wpAny_execs_nil q
  | ret v=>exact q
  | brk=>exact q
  | cont=>exact q
 refine A4 hxx I.ok.frames hs hl λea T cls od sl vs H' s3 ee I3 ex hv1 hTe hv2 tb3 fE fT le ⟨C,ec,hd,hth⟩=>?_;subst ee ec;have inst:∃ox oo,PySem.W.InstAt s3.heap ea ox C oo:=by
  cases od with
  | none=>exact ⟨_,none,ex.obj,rfl,rfl,trivial⟩
  | some d=>
   obtain ⟨u,hu⟩:=hd d rfl;obtain ⟨o,ho⟩:=(I3.hok d u hu).is;exact {_,some o,ex.obj,rfl,rfl,ho}
 obtain ⟨ox,oo,inst⟩:=inst;have fin:∀{z:Stmt} {zs:List Stmt} {hp:Pos} {tz:Addr->TS},(∀ea,PSs (X.held ea) (z::zs) (tz ea))->tz ea D σ (upd H' ea (XH ea C od))->
   codeAny (model X.prog X.w) (X.A.mark (some (.ref ea))) (.handlers (.ref ea) [.ExceptHandler none none (z::zs) hp] X.env) (λr s₂=>match r with
    | .ok f=>SP X pins D f s₂
    | .error w=>cameBackBy (model X.prog X.w) X.A X.env X.xe w s₂) s3:=by
  intro z zs hp tz hz q;refine codeAny_handlers_suite (Xc.land ex hv1 hTe tb3 λh3 g1 g2=>?_);have I4:Inv X pins σ H' { s3 with heap:=h3 }:=I3.turned (t':=s3.toks) (it:=T) g1 fT.1 fT.2.1 fT.2.2.2.1 fT.2.2.2.2.1 fT.2.2.2.2.2;have I5:=I4.track (C:=C) (od:=od) (ea:=ea) (s:={ s3 with heap:=h3 }) ⟨g1 _ _ hTe.symm ex.obj,ex.big⟩ hv2 fE.1 le fE.2.1 fE.2.2.2.2.1 fE.2.2.2.2.2;refine wpAny_mono (hz ea pins _ _ _ _ (I5.held (ea:=ea)) q) (λf s6 q6=>?_) λ_ _ w=>False.elim w;cases f with
  | next=>
   obtain ⟨σ',H6,I7,q7⟩:=q6;exact {σ',H6,I7.unheld I.ok,q7}
  | ret u=>
   obtain ⟨v,σ',H6,I7,r,q7⟩:=q6;exact {v,σ',H6,I7.unheld I.ok,r,q7}
  | brk=>
   obtain ⟨σ',H6,I7,q7⟩:=q6;exact {σ',H6,I7.unheld I.ok,q7}
  | cont=>
   obtain ⟨σ',H6,I7,q7⟩:=q6;exact {σ',H6,I7.unheld I.ok,q7}
 refine wpAny_handleBy_cons (codeAny_handlers_test (fi (X:=X.held ea) I3.held hg hm ?_ hdb)) (by intro q;cases q);rcases hth with ⟨hmro,q⟩ | ⟨hmro,hmro',q⟩
 ·exact Xc.matches_own (K:=X.K) I3.kIn inst hmro hY tY (fin hh (q ea fE.1))
 ·refine Xc.matches_own (K:=X.K) I3.kIn inst hmro hY tY ?_
  refine wpAny_handleBy_cons (codeAny_handlers_test (fi (X:=X.held ea) I3.held hg' hm' ?_ hdb')) (by intro q;cases q);exact Xc.matches_own (K:=X.K) I3.kIn inst hmro' hY' tY' (fin hh' (q ea fE.1))
end
end L2
namespace My
open PySem L2 PyProof.Rows
def al(h:n<=100000):n<sizeLine:=by rw[sizeLine_eq];omega
def bC:∀{ms ms':List Yd.Mv} {s s':Yd.St},Yd.steps T b s ms=some s'->Yd.steps T b s (ms++ms')=Yd.steps T b s' ms'
 | [],ms',s,s',h=>by
  have:s=s':=Option.some.inj h;rw[this];rfl
 | m::r,ms',s,s',h=>by
  have h':(Yd.step T b s m).bind (λz=>Yd.steps T b z r)=some s':=h;show (Yd.step T b s m).bind (λz=>Yd.steps T b z (r++ms'))=_;cases e:Yd.step T b s m with
  | none=>rw[e] at h';cases h'
  | some z=>rw[e] at h';exact bC h'
def pd(h:Yd.steps T b s (ms.take i)=some s')(hm:ms[i]?=some m)(h2:Yd.step T b s' m=none):Yd.steps T b s ms=none:=by
 have e:ms=ms.take i++(m::ms.drop (i+1)):=by
  obtain ⟨hi,rfl⟩:=List.getElem?_eq_some_iff.mp hm;rw[<- List.drop_eq_getElem_cons hi,List.take_append_drop]
 rw[e,bC h];show (Yd.step T b s' m).bind _=none;rw[h2];rfl
end My
namespace Thr
def eQ{α:Type}{l:List α}{a x:α}{i:Nat}(e:(l++[a])[i]?=some x):(i<l.length/\l[i]?=some x)\/(i=l.length/\x=a):=by
 rw[getElem?_append] at e
 split at e
 ·exact .inl {(),e}
 ·cases q:i-l.length with
  | zero=>rw[q] at e;exact .inr {(),(Option.some.inj e).symm}
  | succ d=>rw[q] at e;simp at e
end Thr
namespace PySem
namespace F
def nolen_lri:typeLookup (.type "list_reverseiterator") "__len__"=pure none:=by
 rw[typeLookup_type,builtinLookup_eq_fast];kernel_rfl
def hint_lri:typeLookup (.type "list_reverseiterator") "__length_hint__"=pure (some (.builtin "list_reverseiterator.__length_hint__")):=by
 rw[typeLookup_type,builtinLookup_eq_fast];kernel_rfl
end F
section
variable {prog:Program} {w:World} {A:Around} {s:Shared} {R:Result->Shared->Prop} {I:Addr} {fp wr:List Addr} {G:Array GenState->Array GenState->Prop} {n:Nat} {P:Nat->Value->Prop} {St:Nat->Shared->Prop}
def yP (W:WalksS prog w A.in1 I fp wr G n P St) (hT:∀i s,St i s->s.TypeIs (.ref I) "list_reverseiterator") (S:Addr) (res:Value) (c₀:Nat) (hst:St 0 s) (hSf:S∉fp) (hI:I∈fp)
  (hS:s.heap.get? S=some { cls:=.type "list",data:=.seq #[] c₀ })
  (hR:∀s' acc' c',Moved (S::wr) G s s'->s'.heap.get? S=some { cls:=.type "list",dict:=none,data:=.seq acc' c',slots:=#[] }->ItemsOf P acc' n->R (.ok (.ret res)) s') (hn:n<=sizeLine):
  wpAny (model prog w) A.in1 (Builtin.List.listExtendWith (.ref S) (.ref I) res)
   (λz s'=>match z with | .done f=>R (.ok f) s' | .again c'=>c'.quiet=true/\codeAny (model prog w) A c' R s') (λe s'=>R (.error e) s') s:=by
 have hne:S≠I:=λe=>hSf (e▸hI);unfold Builtin.List.listExtendWith;refine wpAny_bind (wpAny_typeOf (T := "list_reverseiterator") (hT 0 _ hst) ?_);have k1:Builtin.List.listSameRef (.ref S) (.ref I)=false:=by
  simp[Builtin.List.listSameRef,hne]
 have k2:(Value.type "list_reverseiterator"==Value.type "list")=false:=by decide
 have k3:(Value.type "list_reverseiterator"==Value.type "tuple")=false:=by decide
 simp only[k1,k2,k3,Bool.or_false,Bool.false_eq_true,if_false];refine wpAny_bind
  (W.self 0 _ _ _ hst ?_)
 refine wpAny_bind
  (wpAny_holding ?_)
 unfold Builtin.List.listLengthHint;refine wpAny_bind
  (wpAny_specialOf (hT 0 _ hst) F.nolen_lri ?_)
 show wpAny _ A.in1
  (specialOf (Value.ref I) (Str.ofString "__length_hint__") >>= _) _ _ _
 refine wpAny_bind
  (wpAny_specialOf (hT 0 _ hst) F.hint_lri ?_)
 (generalize hid:("list_reverseiterator.__length_hint__":String)=id0;(fail_if_success (clear hid id0));wp_delta;rw[show splitId id0=some ("list_reverseiterator", "__length_hint__") from by subst hid;decide +kernel];subst hid)
 refine wpAny_bind
  (wpAny_isInstance (b:=true) (hT 0 _ hst) (by rw[isSubtype_type];kernel_rfl) ?_)
 refine wpAny_pure ?_;rw[if_neg (by decide)];refine wpAny_pure
  ⟨plainId_quiet F.plain_extend_loop _,codeAny_extend_loopS W hn _ hSf _ n 0 _ _ _ rfl (zero_le _) hst hS (ItemsOf.nil P) λs' acc' c' hm hS' hacc=>?_⟩
 exact hR s' acc' c' hm hS' hacc
end
section
variable {prog:Program} {w:World} {A:Around} {E:Value->Shared->Prop} {s:Shared} {I:Addr} {fp wr:List Addr} {G:Array GenState->Array GenState->Prop} {n:Nat} {P:Nat->Value->Prop} {St:Nat->Shared->Prop}
def wc (W:WalksS prog w A.in1.in1 I fp wr G n P St) (hT:∀i s,St i s->s.TypeIs (.ref I) "list_reverseiterator") (hst:St 0 s) (hfp:∀b∈fp,b<s.heap.objs.size) (hI:I∈fp)
  (hQ:∀s' acc' c',Moved (s.heap.objs.size::wr) G { s with heap:=s.heap.push { cls:=.type "list",data:=.seq #[] } } s'->
   s'.heap.get? s.heap.objs.size=some { cls:=.type "list",dict:=none,data:=.seq acc' c',slots:=#[] }->ItemsOf P acc' n->Q (.ref s.heap.objs.size) s') (hn:n<=sizeLine):
  wpAny (model prog w) A (call (.type "list") [.ref I]) Q E s:=by
 have hnf:s.heap.objs.size∉fp:=λhm=>lt_irrefl _ (hfp _ hm);refine callType_codes (Q₁:=λob s₁=>ob=.ref s.heap.objs.size/\s₁={ s with heap:=s.heap.push { cls:=.type "list",data:=.seq #[] } }) F.called_list (F.typeCall_list_1 _) F.entry_list_init
  (code_list_new _ ⟨rfl,rfl⟩) λob s₁ h₁=>?_
 obtain ⟨rfl,rfl⟩:=h₁;have hS:(s.heap.push { cls:=.type "list",data:=.seq #[] }).get? s.heap.objs.size=some { cls:=.type "list",data:=.seq #[] }:=
  get?_push_size _ rfl
 refine {{_,hS,rfl},F.args_list_init_2 _ _,?_};show wpAny _ A.in1.in1 (do let old <- Builtin.List.listItems (.ref s.heap.objs.size);Builtin.List.listUpdate (.ref s.heap.objs.size) (λ_=>#[]);letGo old.toList.reverse;Builtin.List.listExtendWith (.ref s.heap.objs.size) (.ref I) .none) _ _ _;refine wpAny_bind ?_;unfold Builtin.List.listItems;refine wpAny_bind
  (wpAny_seqItems hS rfl (wpAny_pure ?_))
 show wpAny _ _ (updateSeq s.heap.objs.size (λ_=>#[]) >>= λ_=>letGo (#[]:Array Value).toList.reverse >>= λ_=>Builtin.List.listExtendWith (.ref s.heap.objs.size) (.ref I) .none) _ _ _;refine wpAny_bind
  (wpAny_updateSeq hS rfl ?_)
 have hS2:=Heap.get?_update_self (Obj.mapSeq (λ_=>(#[]:Array Value))) hS rfl;have oth:∀b o,b≠s.heap.objs.size->(s.heap.push { cls:=.type "list",data:=.seq #[] }).get? b=some o->((s.heap.push { cls:=.type "list",data:=.seq #[] }).update s.heap.objs.size (Obj.mapSeq (λ_=>(#[]:Array Value)))).get? b=some o:=
  λb o hb e=>(get?_update_other _ _ (Ne.symm hb)).trans e
 refine wpAny_bind (wpAny_letGo ?_);have st1:=W.frame 0 s (s.heap.push { cls:=.type "list",data:=.seq #[] }) s.toks hst (Nat.le_refl _) λb _ o e=>get?_push_of_some _ e;have st2:=W.frame 0 _ ((s.heap.push { cls:=.type "list",data:=.seq #[] }).update s.heap.objs.size (Obj.mapSeq (λ_=>(#[]:Array Value)))) s.toks st1 (Nat.le_refl _) λb hb o e=>oth b o (λh=>hnf (h▸hb)) e;refine yP (A:=A.in1) W hT s.heap.objs.size .none _ st2 hnf hI hS2 (λs' acc' c' hm hS' hacc=>?_) hn;exact {rfl,hQ s' acc' c' (Moved.trans W.gtrans ((Moved.refl W.grefl).then_heap (Nat.le_refl _) λb o hb e=>oth b o (λh=>hb (h▸mem_cons_self)) e) hm) hS' hacc}
end
end PySem
namespace L2
open PySem PySem.Spec PyProof.Rows
section
variable {X:Cx} {te:TE} {e:Expr} {tg:Expr}
def RB(Q:VK)(v:V)(H1:Hp):Prop:=∃a ys,v=.ref a/\H1 a=some (.lst ys)/\∀l,H1 l=none->Q (.ref l) (upd H1 l (.lst ys.reverse))
def we(te:TE):TE:=λσ H Q=>te σ H (RB Q)
def pf:∀{ys:List V} {us:List Value},aq ys us->aq ys.reverse us.reverse
 | _,_,.nil=>.nil
 | y::ys,u::us,.cons h t=>by
  rw[reverse_cons,reverse_cons];exact (pf t).append (.cons h .nil)
def qH (he:PE X e te) (hc:X.calm=true) (hgL:Gl X "list") (hmL:X.mg "list"=none) (hgR:Gl X "reversed") (hmR:X.mg "reversed"=none)
  (hst:starEach [e] X.env=(false,eval e X.env)::starEach [] X.env:=by rfl):PE X (.Call (.Name "list" p1) [.Call (.Name "reversed" p2) [e] [] pos2] [] pos1) (we te):=by
 intro pins s σ H Q I h;refine wpAny_Call_Name_kw (du I hgL hmL (u:=.type "list") (by decide +kernel) ?_);refine PyProof.Rows.callWith_type1 ?_ rfl rfl;show wpAny _ _ (spliced ((false,eval (.Call (.Name "reversed" p2) [e] [] pos2) X.env)::backTo pos1 (starEach [] X.env))) _ _ s;refine Calls.spliced_cons ?_;refine wpAny_Call_Name_kw (du I hgR hmR (u:=.type "reversed") (by decide +kernel) ?_);have pa:PA X [e] (rC te tH):=bB he fV hst;refine PyProof.Rows.callWith_type1 (thn (pa pos2 pins s σ H (λvs H1=>match vs with | [v]=>RB Q v H1 | _=>False) I h) λus s1 ⟨vs,H1,I1,r1,q1⟩=>?_) hst rfl
 match vs,us,r1,q1 with
 | [_],_,.cons rr .nil,⟨a,ys,ev,hys,q⟩=>
  subst ev;cases (show _=Value.ref a from rr);obtain ⟨its,n',rv,ho,hz⟩:=I1.lst hys;have hl:s1.heap.IsList a its.toArray:=⟨_,ho,rfl,n',rfl⟩;have hln:its.length=ys.length:=rv.length.symm;refine call_reversed_list hl ?_;refine Calls.spliced_nil ?_;have hlt:a<s1.heap.objs.size:=lt_size ho;have W:=(Walks.listRev (prog:=X.prog) (w:=X.w) (A:=X.A.in1.in1) (I.ok.hd hc) s1.heap.objs.size a (Nat.ne_of_lt hlt) its.toArray).toS;refine wc W (λi s' st=>st.2.1.typeIs) {zero_le _,?_,?_} (λb hb=>?_) (by simp) (λs' acc c' hm hS' hacc=>?_) (by rw[size_toArray,hln];exact hz)
  ·refine {_,get?_push_size _ rfl,rfl,?_}
   show Data.fields #[_,_]=_;congr 3;simp
  ·exact {_,get?_push_of_some _ ho,rfl,n',rfl}
  ·show b<(s1.heap.push _).objs.size
   rw[Heap.size_push];simp only[mem_cons,mem_nil_iff,or_false] at hb;rcases hb with rfl | rfl
   ·exact lt_succ_self _
   ·exact Nat.lt_succ_of_lt hlt
  ·have hsz:(s1.heap.push (revObj a ((its.toArray.size:Int)-1))).objs.size=s1.heap.objs.size+1:=by rw[Heap.size_push]
   have keep:∀b o,s1.heap.get? b=some o->s'.heap.get? b=some o:=λb o z=>by
    refine hm.heap b o (λhmem=>?_) (get?_push_of_some _ (get?_push_of_some _ z));have hb:=lt_size z;rcases mem_cons.mp hmem with w' | w'
    ·rw[w'] at hb
     exact absurd hb (by show ¬ (s1.heap.push _).objs.size<_;rw[hsz];exact Nat.not_lt.mpr (le_succ _))
    ·rw[mem_singleton.mp w'] at hb
     exact lt_irrefl _ hb
   rw[Moved.eq_with hm] at hS' ⊢;have hf:H1 (s1.heap.objs.size+1)=none:=I1.hok.fresh (le_succ _);have hacl:acc.toList=its.reverse:=by
    refine ext_getElem? λj=>?_
    by_cases hj:j<its.length
    ·have hjs:j<acc.size:=by rw[hacc.1,size_toArray];exact hj
     have hv:=hacc.2 j acc[j] (Array.getElem?_eq_getElem hjs);rw[List.getElem?_reverse hj];have hv':its.toArray[its.toArray.size-1-j]?=some acc[j]:=hv;rw[List.getElem?_toArray,size_toArray] at hv';rw[hv'];simp[hjs]
    ·rw[getElem?_eq_none_iff.mpr (by rw[length_toList,hacc.1,size_toArray];omega),getElem?_eq_none_iff.mpr (by rw[length_reverse];omega)]
   show EP X pins σ Q (.ref (s1.heap.push (revObj a ((its.toArray.size:Int)-1))).objs.size) _;rw[hsz] at hS' ⊢;refine ⟨.ref (s1.heap.objs.size+1),_,I1.laid (t':=s'.toks) (a:=s1.heap.objs.size+1) (o:=.lst ys.reverse) keep (le_succ _) ⟨by rw[length_reverse];exact hz,acc.toList,c',by rw[hacl];exact pf rv,by simpa using hS'⟩,rfl,q _ hf⟩
end
end L2
namespace PyProof.Rows
open PySem
def yQ:Bool->Keyed->Array Keyed->Nat->Nat->Nat->StateT SortSt Sem (Option Nat):=sortPriv% PySem.Builtin.gallop
section
variable {prog:Program} {w:World} {A:Around} {E:Value->Shared->Prop} {s:Shared}
def ko{st:SortSt}(hk:kindOf st=oneType')
  (h:Q (some (decide (a<b))) st):wpS (model prog w) A E s (lt' (.int a t,p) (.int b u,q)) Q st:=by
 rw[lt'_eq];refine wpS_bind (wpS_get ?_);rw[hk,keyLt'_oneType];refine wpS_bind (wpS_lift (wpAny_attempt (oneLt_int {rfl,?_})));exact wpS_pure h
def IntKeys.at(h0:IntKeys xs)(hi:i<xs.size):
  ∃t q,xs[i]?=some (.int (K xs i) t,q):=by
 have e:xs[i]?=some xs[i]:=getElem?_pos _ i hi;obtain ⟨n,t,hn⟩:=h0 xs[i] (by simp);refine {t,xs[i].2,?_};have e2:xs[i]=(.int n t,xs[i].2):=Prod.ext hn rfl;unfold K;rw[e,e2];rfl
def az{st:SortSt}(e:xs[i]?=some p)(h:Q p st):
  wpS (model prog w) A E s (elem' xs i) Q st:=by
 rw[elem'_eq,e];exact wpS_pure h
def aR(left:Bool)(k x:Int):Bool:=if left then decide (x<k) else !decide (k<x)
def dC{st:SortSt}
  (hk:kindOf st=oneType') (h0:IntKeys xs) (hi:i<xs.size) (h:Q (some (aR left a (K xs i))) st):
  wpS (model prog w) A E s (do
   let x <- elem' xs i
   if left then lt' x (.int a t,p) else return (<- lt' (.int a t,p) x).map (!·)) Q st:=by
 obtain ⟨u,q,e⟩:=h0.at hi;refine wpS_bind (az e ?_);cases left
 ·simp only[Bool.false_eq_true,if_false]
  refine wpS_bind (ko hk (wpS_pure ?_))
  simpa[aR] using h
 ·simp only[if_true]
  refine ko hk ?_
  simpa[aR] using h
def cr{st:SortSt}{base n hint:Nat}
  (hk:kindOf st=oneType') (h0:IntKeys xs) (hn:base+n<=xs.size) (hh:hint<n)
  (hs:∀i j,i<=j->j<n->K xs (base+i)<=K xs (base+j))
  (h:∀k,k<=n->(∀i,i<k->aR left a (K xs (base+i))=true)->(∀i,k<=i->i<n->aR left a (K xs (base+i))=false)->Q (some k) st):
  wpS (model prog w) A E s (yQ left (.int a t,p) xs base n hint) Q st:=by
 have mono:∀i j,i<=j->j<n->aR left a (K xs (base+j))=true->aR left a (K xs (base+i))=true:=by
  intro i j hij hj hb;have:=hs i j hij hj;unfold aR at hb ⊢;cases left<;>simp at hb ⊢<;>omega
 have mono':∀i j,i<=j->j<n->aR left a (K xs (base+i))=false->aR left a (K xs (base+j))=false:=by
  intro i j hij hj hb;cases hc:aR left a (K xs (base+j))
  ·rfl
  ·rw[mono i j hij hj hc] at hb;cases hb
 refine wpS_bind (dC hk h0 (i:=base+hint) () ?_);dsimp only;cases hr:aR left a (K xs (base+hint))
 ·simp only[Bool.false_eq_true,if_false]
  refine wpS_bind (wpS_mono (wpS_forRange
   (I:=λx c st'=>st'=st/\∃l o,c=(none,l,o)/\l<o/\x<o/\l<=hint/\aR left a (K xs (base+(hint-l)))=false)
   (Q:=λc st'=>st'=st/\∃l o,c=(none,l,o)/\l<o/\l<=hint/\aR left a (K xs (base+(hint-l)))=false /\
    (hint+1<=o\/aR left a (K xs (base+(hint-o)))=true)) ?step ?fin ?init) ?post)
  case init=>exact ⟨rfl,0,1,rfl,(),(),(),by simpa using hr⟩
  case fin=>
   rintro c st' ⟨rfl,l,o,rfl,h1,h2,h3,h4⟩;exact {rfl,l,o,rfl,h1,h3,h4,.inl ()}
  case step=>
   rintro x c st' _ hx ⟨rfl,l,o,rfl,h1,h2,h3,h4⟩;dsimp only
   by_cases hge:o>=hint+1
   ·rw[if_pos hge]
    exact wpS_pure {rfl,l,o,rfl,h1,h3,h4,.inl hge}
   ·rw[if_neg hge]
    refine wpS_bind (dC hk h0 () ?_);dsimp only;cases hm:aR left a (K xs (base+(hint-o)))
    ·simp only[Bool.false_eq_true,if_false]
     exact wpS_pure {rfl,o,2*o+1,rfl,(),(),(),hm}
    ·simp only[if_true]
     exact wpS_pure {rfl,l,o,rfl,h1,h3,h4,.inr hm}
  case post=>
   rintro c st' ⟨rfl,l,o,rfl,h1,h3,h4,h5⟩;dsimp only;have e1:hint+1-min o (hint+1)<=hint-l:=()
   have e2:hint-l<=n:=()
   have e3:∀i,i<hint+1-min o (hint+1)->aR left a (K xs (base+i))=true:=by
    intro i hi;rcases h5 with h5 | h5
    ·omega
    ·exact mono i (hint-o) () () h5
   have e4:∀i,hint-l<=i->i<n->aR left a (K xs (base+i))=false:=λi h1 h2=>mono' _ _ h1 h2 h4;generalize hint+1-min o (hint+1)=lo at e1 e3 ⊢;generalize hint-l=hi at e1 e2 e4 ⊢;refine wpS_bind (wpS_mono (wpS_forRange
     (I:=λx c st''=>st''=st'/\∃lo hi,c=(none,lo,hi)/\lo<=hi/\hi<=n/\hi-lo<=n-x/\(∀i,i<lo->aR left a (K xs (base+i))=true) /\
      (∀i,hi<=i->i<n->aR left a (K xs (base+i))=false))
     (Q:=λc st''=>st''=st'/\∃lo hi,c=(none,lo,hi)/\hi<=n/\(∀i,i<hi->aR left a (K xs (base+i))=true) /\
      (∀i,hi<=i->i<n->aR left a (K xs (base+i))=false)) ?aQ ?gfin ⟨rfl,lo,hi,rfl,e1,e2,(),e3,e4⟩) ?gpost)
   case gfin=>
    rintro c st'' ⟨rfl,lo,hi,rfl,h1,h2,h3,h4,h5⟩;have:lo=hi:=()
    subst this;exact ⟨rfl,lo,lo,rfl,h2,h4,h5⟩
   case gpost=>
    rintro c st'' ⟨rfl,lo,hi,rfl,h2,h4,h5⟩;exact wpS_pure (h hi h2 h4 h5)
   case aQ=>
    rintro x c st'' _ hx ⟨rfl,lo,hi,rfl,h1,h2,h3,h4,h5⟩;dsimp only
    by_cases hge:lo>=hi
    ·rw[if_pos hge]
     have:lo=hi:=()
     subst this;exact wpS_pure ⟨rfl,lo,lo,rfl,h2,h4,h5⟩
    ·rw[if_neg hge]
     refine wpS_bind (dC hk h0 () ?_);dsimp only;cases hm:aR left a (K xs (base+(lo+(hi-lo)/2)))
     ·simp only[Bool.false_eq_true,if_false]
      exact wpS_pure {rfl,lo,lo+(hi-lo)/2,rfl,(),(),(),h4,λi h6 h7=>mono' _ _ h6 h7 hm}
     ·simp only[if_true]
      exact wpS_pure {rfl,lo+(hi-lo)/2+1,hi,rfl,(),(),(),λi h6=>mono i (lo+(hi-lo)/2) () () hm,h5}
 ·simp only[if_true]
  refine wpS_bind (wpS_mono (wpS_forRange
   (I:=λx c st'=>st'=st/\∃l o,c=(none,l,o)/\l<o/\x<o/\hint+l<n/\aR left a (K xs (base+(hint+l)))=true)
   (Q:=λc st'=>st'=st/\∃l o,c=(none,l,o)/\l<o/\hint+l<n/\aR left a (K xs (base+(hint+l)))=true /\
    (n-hint<=o\/aR left a (K xs (base+(hint+o)))=false)) ?step ?fin ?init) ?post)
  case init=>exact ⟨rfl,0,1,rfl,(),(),(),by simpa using hr⟩
  case fin=>
   rintro c st' ⟨rfl,l,o,rfl,h1,h2,h3,h4⟩;exact {rfl,l,o,rfl,h1,h3,h4,.inl ()}
  case step=>
   rintro x c st' _ hx ⟨rfl,l,o,rfl,h1,h2,h3,h4⟩;dsimp only
   by_cases hge:o>=n-hint
   ·rw[if_pos hge]
    exact wpS_pure {rfl,l,o,rfl,h1,h3,h4,.inl hge}
   ·rw[if_neg hge]
    refine wpS_bind (dC hk h0 () ?_);dsimp only;cases hm:aR left a (K xs (base+(hint+o)))
    ·simp only[Bool.not_false,if_true]
     exact wpS_pure {rfl,l,o,rfl,h1,h3,h4,.inr hm}
    ·simp only[Bool.not_true,Bool.false_eq_true,if_false]
     exact wpS_pure {rfl,o,2*o+1,rfl,(),(),(),hm}
  case post=>
   rintro c st' ⟨rfl,l,o,rfl,h1,h3,h4,h5⟩;dsimp only;have e1:hint+l+1<=hint+min o (n-hint):=()
   have e2:hint+min o (n-hint)<=n:=()
   have e3:∀i,i<hint+l+1->aR left a (K xs (base+i))=true:=λi hi=>mono i (hint+l) () h3 h4;have e4:∀i,hint+min o (n-hint)<=i->i<n->aR left a (K xs (base+i))=false:=by
    intro i h1 h2;rcases h5 with h5 | h5
    ·omega
    ·exact mono' (hint+o) i () h2 h5
   generalize hint+l+1=lo at e1 e3 ⊢;generalize hint+min o (n-hint)=hi at e1 e2 e4 ⊢;refine wpS_bind (wpS_mono (wpS_forRange
     (I:=λx c st''=>st''=st'/\∃lo hi,c=(none,lo,hi)/\lo<=hi/\hi<=n/\hi-lo<=n-x/\(∀i,i<lo->aR left a (K xs (base+i))=true) /\
      (∀i,hi<=i->i<n->aR left a (K xs (base+i))=false))
     (Q:=λc st''=>st''=st'/\∃lo hi,c=(none,lo,hi)/\hi<=n/\(∀i,i<hi->aR left a (K xs (base+i))=true) /\
      (∀i,hi<=i->i<n->aR left a (K xs (base+i))=false)) ?aQ ?gfin ⟨rfl,lo,hi,rfl,e1,e2,(),e3,e4⟩) ?gpost)
   case gfin=>
    rintro c st'' ⟨rfl,lo,hi,rfl,h1,h2,h3,h4,h5⟩;have:lo=hi:=()
    subst this;exact ⟨rfl,lo,lo,rfl,h2,h4,h5⟩
   case gpost=>
    rintro c st'' ⟨rfl,lo,hi,rfl,h2,h4,h5⟩;exact wpS_pure (h hi h2 h4 h5)
   case aQ=>
    rintro x c st'' _ hx ⟨rfl,lo,hi,rfl,h1,h2,h3,h4,h5⟩;dsimp only
    by_cases hge:lo>=hi
    ·rw[if_pos hge]
     have:lo=hi:=()
     subst this;exact wpS_pure ⟨rfl,lo,lo,rfl,h2,h4,h5⟩
    ·rw[if_neg hge]
     refine wpS_bind (dC hk h0 () ?_);dsimp only;cases hm:aR left a (K xs (base+(lo+(hi-lo)/2)))
     ·simp only[Bool.false_eq_true,if_false]
      exact wpS_pure {rfl,lo,lo+(hi-lo)/2,rfl,(),(),(),h4,λi h6 h7=>mono' _ _ h6 h7 hm}
     ·simp only[if_true]
      exact wpS_pure {rfl,lo+(hi-lo)/2+1,hi,rfl,(),(),(),λi h6=>mono i (lo+(hi-lo)/2) () () hm,h5}
end
def j0(p:Keyed):Int:=numOf p.1
def bx(x y:Keyed):Prop:=j0 x<=j0 y
def gR(h:i<xs.size):K xs i=j0 xs[i]:=by
 unfold K j0;rw[getElem?_pos xs i h]
structure l5(T out R S:List Keyed):Prop where
 perm:(out++R++S).Perm T
 so:out.Pairwise bx
 sR:R.Pairwise bx
 sS:S.Pairwise bx
 oR:∀x∈out,∀y∈R,bx x y
 oS:∀x∈out,∀y∈S,bx x y
def l5.takeA{T out R1 R2 S:List Keyed}(h:l5 T out (R1++R2) S)(hc:∀x∈R1,∀y∈S,bx x y):l5 T (out++R1) R2 S:=by
 obtain ⟨p,a,b,c,d,e⟩:=h;rw[pairwise_append] at b;refine ⟨by simpa[append_assoc] using p,pairwise_append.mpr {a,b.1,λx hx y hy=>d x hx y (mem_append_left _ hy)},b.2.1,c,?_,?_⟩
 ·intro x hx y hy
  rcases mem_append.mp hx with hx | hx
  ·exact d x hx y (mem_append_right _ hy)
  ·exact b.2.2 x hx y hy
 ·intro x hx y hy
  rcases mem_append.mp hx with hx | hx
  ·exact e x hx y hy
  ·exact hc x hx y hy
def l5.flip{T out R S:List Keyed}(h:l5 T out R S):l5 T out S R:=by
 obtain ⟨p,a,b,c,d,e⟩:=h;refine {?_,a,c,b,e,d};refine List.Perm.trans ?_ p;rw[append_assoc,append_assoc];exact List.Perm.append_left _ List.perm_append_comm
def l5.takeB{T out R S1 S2:List Keyed}(h:l5 T out R (S1++S2))(hc:∀x∈S1,∀y∈R,bx x y):l5 T (out++S1) R S2:=
 (h.flip.takeA hc).flip
def aT(T:List Keyed)(r:Array Keyed):Prop:=r.toList.Perm T/\r.toList.Pairwise bx
def aG(a b out:Array Keyed)(ia ib:Nat):Prop:=l5 (a.toList++b.toList) out.toList (a.toList.drop ia) (b.toList.drop ib)
def di{xs:Array Keyed}{i k:Nat}:xs.toList.drop i=(xs.extract i (i+k)).toList++xs.toList.drop (i+k):=by
 rw[Array.toList_extract,List.extract_eq_take_drop,Nat.add_sub_cancel_left,<- List.drop_drop,List.take_append_drop]
def fw(h:y∈xs.toList.drop i):∃j,i<=j/\j<xs.size/\j0 y=K xs j:=by
 obtain ⟨j,hj,e⟩:=getElem_of_mem h;rw[length_drop,length_toList] at hj;refine {i+j,(),(),?_};rw[gR (),<- e];congr 1;simp
def aD(h:y∈(xs.extract i k).toList):∃j,i<=j/\j<k/\j<xs.size/\j0 y=K xs j:=by
 obtain ⟨j,hj,e⟩:=getElem_of_mem h;rw[length_toList,size_extract] at hj;refine {i+j,(),(),(),?_};rw[gR (),<- e];congr 1;simp
def aG.blockA{a b out:Array Keyed}{ia ib k:Nat}(h:aG a b out ia ib)
  (hc:∀i j,ia<=i->i<ia+k->i<a.size->ib<=j->j<b.size->K a i<=K b j):aG a b (out++a.extract ia (ia+k)) (ia+k) ib:=by
 unfold aG at h ⊢;rw[di (k:=k)] at h;rw[toList_append];refine h.takeA λx hx y hy=>?_;obtain ⟨i,i1,i2,i3,e1⟩:=aD hx;obtain ⟨j,j1,j2,e2⟩:=fw hy;unfold bx;rw[e1,e2];exact hc i j i1 i2 i3 j1 j2
def aG.blockB{a b out:Array Keyed}{ia ib k:Nat}(h:aG a b out ia ib)
  (hc:∀i j,ia<=i->i<a.size->ib<=j->j<ib+k->j<b.size->K b j<=K a i):aG a b (out++b.extract ib (ib+k)) ia (ib+k):=by
 unfold aG at h ⊢;rw[di (xs:=b) (k:=k)] at h;rw[toList_append];refine h.takeB λx hx y hy=>?_;obtain ⟨j,i1,i2,i3,e1⟩:=aD hx;obtain ⟨i,j1,j2,e2⟩:=fw hy;unfold bx;rw[e1,e2];exact hc i j j1 j2 i1 i2 i3
def cI{xs:Array Keyed}{i:Nat}{x:Keyed}(e:xs[i]?=some x):xs.extract i (i+1)=#[x]:=by
 obtain ⟨h,e⟩:=Array.getElem?_eq_some_iff.mp e
 apply Array.ext
 ·simp;omega
 ·intro j h1 h2
  simp at h2;subst h2;simp[e]
def aG.pushA{a b out:Array Keyed}{ia ib:Nat}{x:Keyed}(h:aG a b out ia ib)(e:a[ia]?=some x)
  (hc:∀j,ib<=j->j<b.size->K a ia<=K b j):aG a b (out.push x) (ia+1) ib:=by
 have:=h.blockA (k:=1) λi j h1 h2 h3 h4 h5=>by
  have:i=ia:=()
  subst this;exact hc j h4 h5
 rwa [cI e,Array.append_singleton] at this
def aG.pushB{a b out:Array Keyed}{ia ib:Nat}{x:Keyed}(h:aG a b out ia ib)(e:b[ib]?=some x)
  (hc:∀i,ia<=i->i<a.size->K b ib<=K a i):aG a b (out.push x) ia (ib+1):=by
 have:=h.blockB (k:=1) λi j h1 h2 h3 h4 h5=>by
  have:j=ib:=()
  subst this;exact hc i h1 h2
 rwa [cI e,Array.append_singleton] at this
def bj{xs:Array Keyed}{i:Nat}:(xs.extract i xs.size).toList=xs.toList.drop i:=by
 rw[Array.toList_extract,List.extract_eq_take_drop,take_of_length_le];rw[length_drop,length_toList];exact Nat.le_refl _
def aG.doneB{a b out:Array Keyed}{ia ib:Nat}(h:aG a b out ia ib)(e:b.size<=ib):
  aT (a.toList++b.toList) (out++a.extract ia a.size++b.extract ib b.size):=by
 unfold aG at h;have e0:b.toList.drop ib=[]:=drop_of_length_le (by simpa using e);unfold aT;rw[toList_append,toList_append,bj,bj];refine {h.perm,?_};rw[e0,append_nil];exact pairwise_append.mpr ⟨h.so,h.sR,h.oR⟩
def aG.doneA{a b out:Array Keyed}{ia ib:Nat}(h:aG a b out ia ib)(e:a.size<=ia):
  aT (a.toList++b.toList) (out++a.extract ia a.size++b.extract ib b.size):=by
 unfold aG at h;have e0:a.toList.drop ia=[]:=drop_of_length_le (by simpa using e);unfold aT;rw[toList_append,toList_append,bj,bj];refine {h.perm,?_};rw[e0,append_nil];exact pairwise_append.mpr ⟨h.so,h.sS,h.oS⟩
def aG.last{a b out:Array Keyed}{ia ib:Nat}(h:aG a b out ia ib)(e:a.size<=ia+1)
  (hL:∀j,j<b.size->K b j<=K a (a.size-1)):aT (a.toList++b.toList) (out++b.extract ib b.size++a.extract ia a.size):=by
 unfold aG at h;unfold aT;rw[toList_append,toList_append,bj,bj];refine {h.flip.perm,?_};refine pairwise_append.mpr {pairwise_append.mpr ⟨h.so,h.sS,h.oS⟩,h.sR,λx hx y hy=>?_};rcases mem_append.mp hx with hx | hx
 ·exact h.oR x hx y hy
 ·obtain ⟨i,i1,i2,e1⟩:=fw hy
  obtain ⟨j,j1,j2,e2⟩:=fw hx;have:i=a.size-1:=()
  subst this;unfold bx;rw[e1,e2];exact hL j j2
def cJ(h:∀i j,i<=j->j<xs.size->K xs i<=K xs j):xs.toList.Pairwise bx:=by
 rw[List.pairwise_iff_getElem];intro i j hi hj hij;have:=h i j () (by simpa using hj);rw[gR (by simpa using hi),gR (by simpa using hj)] at this
 simpa[bx] using this
def aG.init(sa:∀i j,i<=j->j<a.size->K a i<=K a j)(sb:∀i j,i<=j->j<b.size->K b i<=K b j):aG a b #[] 0 0:=by
 unfold aG;exact ⟨by simp,by simp,by simpa using cJ sa,by simpa using cJ sb,by simp,by simp⟩
def ie:Nat->StateT SortSt Sem Unit:=sortPriv% PySem.Builtin.setMinGallop
abbrev lB(st:SortSt)(g:Nat):SortSt:=SortSt.mk' (kindOf st) (arrOf st) (pendingOf st) g (failedOf st)
def jq(g:Nat):ie g=modify λs=>lB s g:=rfl
def wf:Array Keyed->Array Keyed->StateT SortSt Sem (Array Keyed):=sortPriv% PySem.Builtin.mergeLo
section
variable {prog:Program} {w:World} {A:Around} {E:Value->Shared->Prop} {s:Shared}
def dj(st st':SortSt):Prop:=kindOf st'=kindOf st/\arrOf st'=arrOf st/\pendingOf st'=pendingOf st/\failedOf st'=failedOf st
def dj.gal{st st':SortSt}(h:dj st st')(g:Nat):dj st (lB st' g):=h
def fA{st:SortSt}(h:Q Unit.unit (lB st g)):wpS (model prog w) A E s (ie g) Q st:=by
 rw[jq];exact wpS_modify h
def ur{α β γ:Type}{st:SortSt}{f:β->γ->StateT SortSt Sem α}{p:StateT SortSt Sem α}{Q:α->SortSt->Prop}(P:β->γ->SortSt->Prop)
  (h:∀x y t,P x y t->wpS (model prog w) A E s (f x y) Q t)
  (g:(∀x y t,P x y t->wpS (model prog w) A E s (f x y) Q t)->wpS (model prog w) A E s p Q st):wpS (model prog w) A E s p Q st:=g h
def ph{st:SortSt}(hk:kindOf st=oneType')(ha0:IntKeys a)(hb0:IntKeys b)
  (ha1:0<a.size) (hb1:0<b.size)
  (sa:∀i j,i<=j->j<a.size->K a i<=K a j) (sb:∀i j,i<=j->j<b.size->K b i<=K b j)
  (hfirst:∀i,i<a.size->K b 0<=K a i) (hlast:∀j,j<b.size->K b j<=K a (a.size-1))
  (h:∀r st',dj st st'->aT (a.toList++b.toList) r->Q r st'):
  wpS (model prog w) A E s (wf a b) Q st:=by
 refine wpS_bind (wpS_lift (wpAny_rule {rfl,?_}));obtain ⟨t0,p0,e0⟩:=hb0.at hb1;refine wpS_bind (az e0 ?_);have hI:aG a b (#[].push (.int (K b 0) t0,p0)) 0 1:=(aG.init sa sb).pushB e0 λi _ h2=>hfirst i h2;have hI':aG a b #[(.int (K b 0) t0,p0)] 0 1:=hI
 by_cases hone:1=b.size
 ·rw[if_pos (by simpa using hone)]
  exact wpS_pure (h _ _ ⟨rfl,rfl,rfl,rfl⟩ (hI'.doneB ()))
 rw[if_neg (by simpa using hone)]
 by_cases hone':0+1=a.size
 ·rw[if_pos (by simpa using hone')]
  exact wpS_pure (h _ _ ⟨rfl,rfl,rfl,rfl⟩ (hI'.last () hlast))
 rw[if_neg (by simpa using hone')];refine wpS_bind (wpS_get ?_)
 let LI1:Nat->Option (Array Keyed)×Array Keyed×Nat×Nat×Nat->SortSt->Prop:=λx c st'=>dj st st'/\∃out ia ib mg,c=(none,out,ia,ib,mg)/\aG a b out ia ib/\ia+1<a.size/\ib<b.size/\x<ia+ib
 let LQ2:Option (Array Keyed)×Array Keyed×Nat×Nat×Nat->SortSt->Prop:=λc st'=>dj st st'/\∃r rest,c=(some r,rest)/\aT (a.toList++b.toList) r
 refine wpS_bind (wpS_mono (wpS_forRange
  (I:=LI1)
  (Q:=LQ2) ?step ?fin
  ⟨⟨rfl,rfl,rfl,rfl⟩,_,0,1,_,rfl,hI',(),(),()⟩) ?post)
 case post=>
  rintro c st' ⟨hG,r,rest,rfl,hr⟩;exact wpS_pure (h r st' hG hr)
 case fin=>
  rintro c st' ⟨hG,out,ia,ib,mg,rfl,hL,h1,h2,h3⟩;omega
 case step=>
  rintro x c st' _ hx ⟨hG,out,ia,ib,mg,rfl,hL,hia,hib,hx2⟩
  dsimp -zeta only
  let LI3:Nat->Option (Array Keyed)×Array Keyed×Nat×Nat×Nat×Nat->SortSt->Prop:=λy c st''=>dj st st''/\∃out' ia' ib' cs,c=(none,out',ia',ib',cs)/\aG a b out' ia' ib'/\ia'+1<a.size/\ib'<b.size/\y+ia+ib<=ia'+ib'
  let LQ4:Option (Array Keyed)×Array Keyed×Nat×Nat×Nat×Nat->SortSt->Prop:=λc st''=>dj st st''/\((∃out' ia' ib' cs,c=(none,out',ia',ib',cs)/\aG a b out' ia' ib'/\ia'+1<a.size/\ib'<b.size/\ia+ib<ia'+ib')\/(∃r rest,c=(some r,rest)/\aT (a.toList++b.toList) r))
  refine wpS_bind (wpS_mono (wpS_forRange
   (I:=LI3)
   (Q:=LQ4) ?step1 ?fin1 ⟨hG,_,_,_,_,rfl,hL,hia,hib,by dsimp only;omega⟩) ?post1)
  case fin1=>
   rintro c st'' ⟨hG',out',ia',ib',cs,rfl,hL',h1,h2,h3⟩;exact {hG',.inl {_,_,_,_,rfl,hL',h1,h2,()}}
  case step1=>
   rintro y c st'' _ hy ⟨hG',out',ia',ib',⟨ac,bc⟩,rfl,hL',h1,h2,h3⟩;dsimp only;obtain ⟨tb,pb,eb⟩:=hb0.at (i:=ib') ();obtain ⟨ta,pa,ea⟩:=ha0.at (i:=ia') ();refine wpS_bind (az eb (wpS_bind (az ea (wpS_bind (ko (hG'.1.trans hk) ?_)))));dsimp only
   by_cases hless:K b ib'<K a ia'
   ·simp only[hless,decide_true,if_true]
    refine wpS_bind (az eb ?_);have hL2:=hL'.pushB eb λi h4 h5=>by have:=sa ia' i h4 h5;omega
    by_cases hend:ib'+1=b.size
    ·rw[if_pos (by simpa using hend)]
     exact wpS_pure {hG',.inr {_,_,rfl,hL2.doneB ()}}
    ·rw[if_neg (by simpa using hend)]
     split
     ·exact wpS_pure {hG',.inl {_,_,_,_,rfl,hL2,(),(),()}}
     ·exact wpS_pure {hG',_,_,_,_,rfl,hL2,(),(),()}
   ·simp only[hless,decide_false,Bool.false_eq_true,if_false]
    refine wpS_bind (az ea ?_);have hL2:=hL'.pushA ea λj h4 h5=>by have:=sb ib' j h4 h5;omega
    by_cases hend:ia'+1+1=a.size
    ·rw[if_pos (by simpa using hend)]
     exact wpS_pure {hG',.inr {_,_,rfl,hL2.last () hlast}}
    ·rw[if_neg (by simpa using hend)]
     split
     ·exact wpS_pure {hG',.inl {_,_,_,_,rfl,hL2,(),(),()}}
     ·exact wpS_pure {hG',_,_,_,_,rfl,hL2,(),(),()}
  case post1=>
   rintro c st'' ⟨hG',(⟨out',ia',ib',⟨ac,bc⟩,rfl,hL',h1,h2,h3⟩ | ⟨r,⟨o2,i2,j2,cs⟩,rfl,hr⟩)⟩
   case inr=>
    dsimp only;exact wpS_pure {hG',r,_,rfl,hr}
   dsimp -zeta only
   refine wpS_bind (wpS_lift (wpAny_rule {rfl,?_}))
   let LI5:Nat->Option (Array Keyed)×Array Keyed×Nat×Nat×Nat×Nat×Nat->SortSt->Prop:=λy c st3=>dj st st3/\∃out3 ia3 ib3 cs,c=(none,out3,ia3,ib3,cs)/\aG a b out3 ia3 ib3/\ia3+1<a.size/\ib3<b.size/\ia+ib<ia3+ib3
   let LQ6:Option (Array Keyed)×Array Keyed×Nat×Nat×Nat×Nat×Nat->SortSt->Prop:=λc st3=>dj st st3/\((∃out3 ia3 ib3 cs,c=(none,out3,ia3,ib3,cs)/\aG a b out3 ia3 ib3/\ia3+1<a.size/\ib3<b.size/\ia+ib<ia3+ib3)\/(∃r rest,c=(some r,rest)/\aT (a.toList++b.toList) r))
   refine wpS_bind (wpS_mono (wpS_forRange
    (I:=LI5)
    (Q:=LQ6) ?step2 ?fin2 ⟨hG',_,_,_,_,rfl,hL',h1,h2,h3⟩) ?post2)
   case fin2=>
    rintro c st3 ⟨hG3,out3,ia3,ib3,cs,rfl,hL3,h4,h5,h6⟩;exact {hG3,.inl {_,_,_,_,rfl,hL3,h4,h5,h6}}
   case post2=>
    rintro c st3 ⟨hG3,(⟨out3,ia3,ib3,⟨mg3,ac3,bc3⟩,rfl,hL3,h4,h5,h6⟩ | ⟨r,⟨o2,i2,j2,mg2,cs⟩,rfl,hr⟩)⟩
    ·dsimp only
     refine wpS_bind (fA ?_);exact wpS_pure {hG3.gal _,_,_,_,_,rfl,hL3,h4,h5,()}
    ·dsimp only
     exact wpS_pure {hG3,r,_,rfl,hr}
   case step2=>
    clear hL hL' hx2 hx hia hib h1 h2;generalize hz:ia+ib=z;clear h3;rintro y c st3 _ hy ⟨hG3,out,ia,ib,⟨mg3,ac3,bc3⟩,rfl,hL,hia,hib,h6⟩
    extract_lets -underBinder +onlyGivenNames s1 o s2 na s3 nb s4 mg s5 ac bc
    dsimp -zeta only [s1,na,s2,nb,s3,o,s4,mg,s5,ac,bc]
    extract_lets -underBinder +onlyGivenNames jp
    refine ur (f:=jp) (λ_ _ t=>dj st t) ?_ λhj=>?_
    case' refine_2=>clear_value jp;split<;>exact hj _ _ _ hG3
    clear bc ac s5 mg s4 nb s3 na s2 o s1;intro _ mg st4 hG1;refine wpS_bind (fA ?_);have hG1:=hG1.gal mg;generalize lB st4 mg=st4 at hG1 ⊢;obtain ⟨tb,pb,eb⟩:=hb0.at (i:=ib) ();refine wpS_bind (az eb ?_);refine wpS_bind (cr (hG1.1.trans hk) ha0 () () (λi j h1 h2=>sa _ _ () ()) λk hk1 hk2 hk3=>?_)
    dsimp -zeta only
    extract_lets -underBinder +onlyGivenNames ac jp
    have hB0:∀i,ia+k<=i->i<a.size->K b ib<=K a i:=by
     intro i h1 h2;have q1:=hk3 (i-ia) () ();rw[show ia+(i-ia)=i by omega] at q1;simp[aR] at q1;omega
    refine ur (f:=jp Unit.unit) (λo1 i1 t=>dj st t/\aG a b o1 i1 ib/\i1+1<a.size/\ia<=i1/\∀i,i1<=i->i<a.size->K b ib<=K a i) ?_ λhj=>?_
    case' refine_2=>
     clear_value jp
     split
     ·have hL1:=hL.blockA (k:=k) λi j h1 h2 h3 h4 h5=>by
       have q1:=hk2 (i-ia) ();rw[show ia+(i-ia)=i by omega] at q1;have q2:=sb ib j h4 h5;simp[aR] at q1;omega
      by_cases hend0:ia+k+1=a.size
      ·rw[if_pos (by simpa using hend0)]
       exact wpS_pure {hG1,.inr {_,_,rfl,hL1.last () hlast}}
      ·rw[if_neg (by simpa using hend0)]
       by_cases hend1:ia+k=a.size
       ·rw[if_pos (by simpa using hend1)]
        exact wpS_pure {hG1,.inr {_,_,rfl,hL1.doneA ()}}
       ·rw[if_neg (by simpa using hend1)]
        exact hj _ _ _ {hG1,hL1,(),(),hB0}
     ·exact hj _ _ _ {hG1,hL,hia,Nat.le_refl _,λi h1 h2=>hB0 i () h2}
    clear_value ac
    clear hB0 hk1 hk2 hk3 hL eb hG1;rintro o1 i1 st4 ⟨hG1,hL1,hi1,hi2,hB1⟩;obtain ⟨tb2,pb2,eb2⟩:=hb0.at (i:=ib) ();refine wpS_bind (az eb2 ?_);have hL2:=hL1.pushB eb2 hB1
    by_cases hend:ib+1=b.size
    ·rw[if_pos (by simpa using hend)]
     exact wpS_pure {hG1,.inr {_,_,rfl,hL2.doneB ()}}
    rw[if_neg (by simpa using hend)];obtain ⟨ta2,pa2,ea2⟩:=ha0.at (i:=i1) ();refine wpS_bind (az ea2 ?_);refine wpS_bind (cr (hG1.1.trans hk) hb0 () () (λi j h1 h2=>sb _ _ () ()) λk1 hk1 hk2 hk3=>?_)
    dsimp -zeta only
    extract_lets -underBinder +onlyGivenNames bc jp
    refine ur (f:=jp Unit.unit) (λo2 j1 t=>dj st t/\aG a b o2 i1 j1/\j1<b.size/\ib+1+k1<=j1) ?_ λhj=>?_
    case' refine_2=>
     clear_value jp
     split
     ·have hL3:=hL2.blockB (k:=k1) λi j h1 h2 h3 h4 h5=>by
       have q1:=hk2 (j-(ib+1)) ();rw[show ib+1+(j-(ib+1))=j by omega] at q1;have q2:=sa i1 i h1 h2;simp[aR] at q1;omega
      by_cases hend2:ib+1+k1=b.size
      ·rw[if_pos (by simpa using hend2)]
       exact wpS_pure {hG1,.inr {_,_,rfl,hL3.doneB ()}}
      ·rw[if_neg (by simpa using hend2)]
       exact hj _ _ _ {hG1,hL3,(),()}
     ·exact hj _ _ _ {hG1,hL2,(),()}
    clear_value bc
    clear hk2 hL2 hL1 hG1 eb2;rintro o2 j1 st4 ⟨hG1,hL3,hj1,hj2⟩;refine wpS_bind (az ea2 ?_);have hL4:=hL3.pushA ea2 λj h1 h2=>by
     have q1:=hk3 (j-(ib+1)) () ();rw[show ib+1+(j-(ib+1))=j by omega] at q1;simp[aR] at q1;omega
    by_cases hend3:i1+1+1=a.size
    ·rw[if_pos (by simpa using hend3)]
     exact wpS_pure {hG1,.inr {_,_,rfl,hL4.last () hlast}}
    rw[if_neg (by simpa using hend3)]
    split
    ·exact wpS_pure {hG1,.inl {_,_,_,_,rfl,hL4,(),(),()}}
    ·exact wpS_pure {hG1,_,_,_,_,rfl,hL4,(),(),()}
end
structure l9(T out R S:List Keyed):Prop where
 perm:(R++S++out).Perm T
 so:out.Pairwise bx
 sR:R.Pairwise bx
 sS:S.Pairwise bx
 oR:∀y∈R,∀x∈out,bx y x
 oS:∀y∈S,∀x∈out,bx y x
def l9.flip{T out R S:List Keyed}(h:l9 T out R S):l9 T out S R:=by
 obtain ⟨p,a,b,c,d,e⟩:=h;exact {List.Perm.trans (List.Perm.append_right _ List.perm_append_comm) p,a,c,b,e,d}
def l9.takeB{T out R S1 S2:List Keyed}(h:l9 T out R (S1++S2))(hc:∀y∈R,∀x∈S2,bx y x):l9 T (S2++out) R S1:=by
 obtain ⟨p,a,b,c,d,e⟩:=h;rw[pairwise_append] at c;refine ⟨by simpa[append_assoc] using p,pairwise_append.mpr {c.2.1,a,λx hx y hy=>e x (mem_append_right _ hx) y hy},b,c.1,?_,?_⟩
 ·intro y hy x hx
  rcases mem_append.mp hx with hx | hx
  ·exact hc y hy x hx
  ·exact d y hy x hx
 ·intro y hy x hx
  rcases mem_append.mp hx with hx | hx
  ·exact c.2.2 y hy x hx
  ·exact e y (mem_append_left _ hy) x hx
def l9.takeA{T out R1 R2 S:List Keyed}(h:l9 T out (R1++R2) S)(hc:∀y∈S,∀x∈R2,bx y x):l9 T (R2++out) R1 S:=
 (h.flip.takeB hc).flip
def aH(a b out:Array Keyed)(na nb:Nat):Prop:=l9 (a.toList++b.toList) out.reverse.toList (a.extract 0 na).toList (b.extract 0 nb).toList
def iR{xs:Array Keyed}{i n:Nat}(h:i<=n):(xs.extract 0 n).toList=(xs.extract 0 i).toList++(xs.extract i n).toList:=by
 rw[<- toList_append,Array.extract_append_extract,min_eq_left (zero_le _),Nat.max_eq_right h]
def aH.blockA{a b out:Array Keyed}{na nb i:Nat}(h:aH a b out na nb)(hi:i<=na)
  (hc:∀x y,i<=x->x<na->x<a.size->y<nb->y<b.size->K b y<=K a x):aH a b (out++(a.extract i na).reverse) i nb:=by
 unfold aH at h ⊢;rw[iR hi] at h;rw[Array.reverse_append,Array.reverse_reverse,toList_append];refine h.takeA λy hy x hx=>?_;obtain ⟨x',i1,i2,i3,e1⟩:=aD hx;obtain ⟨y',j1,j2,j3,e2⟩:=aD hy;unfold bx;rw[e1,e2];exact hc x' y' i1 i2 i3 j2 j3
def aH.blockB{a b out:Array Keyed}{na nb i:Nat}(h:aH a b out na nb)(hi:i<=nb)
  (hc:∀x y,x<na->x<a.size->i<=y->y<nb->y<b.size->K a x<=K b y):aH a b (out++(b.extract i nb).reverse) na i:=by
 unfold aH at h ⊢;rw[iR (xs:=b) hi] at h;rw[Array.reverse_append,Array.reverse_reverse,toList_append];refine h.takeB λy hy x hx=>?_;obtain ⟨x',i1,i2,i3,e1⟩:=aD hx;obtain ⟨y',j1,j2,j3,e2⟩:=aD hy;unfold bx;rw[e1,e2];exact hc y' x' j2 j3 i1 i2 i3
def aH.pushA{a b out:Array Keyed}(h:aH a b out na nb)(hn:1<=na)(e:a[na-1]?=some x)
  (hc:∀y,y<nb->y<b.size->K b y<=K a (na-1)):aH a b (out.push x) (na-1) nb:=by
 have:=h.blockA (i:=na-1) () λi j h1 h2 h3 h4 h5=>by
  have:i=na-1:=()
  subst this;exact hc j h4 h5
 have e1:=cI e;rw[show na-1+1=na by omega] at e1;rw[e1] at this
 simpa using this
def aH.pushB{a b out:Array Keyed}(h:aH a b out na nb)(hn:1<=nb)(e:b[nb-1]?=some x)
  (hc:∀i,i<na->i<a.size->K a i<=K b (nb-1)):aH a b (out.push x) na (nb-1):=by
 have:=h.blockB (i:=nb-1) () λi j h1 h2 h3 h4 h5=>by
  have:j=nb-1:=()
  subst this;exact hc i h1 h2
 have e1:=cI e;rw[show nb-1+1=nb by omega] at e1;rw[e1] at this
 simpa using this
def aH.doneA{a b out:Array Keyed}(h:aH a b out na nb)(e:na=0):
  aT (a.toList++b.toList) (a.extract 0 na++b.extract 0 nb++out.reverse):=by
 unfold aH at h;subst e;unfold aT;rw[toList_append,toList_append];refine {h.perm,?_};have e0:(a.extract 0 0).toList=[]:=by simp
 rw[e0,nil_append];exact pairwise_append.mpr ⟨h.sS,h.so,h.oS⟩
def aH.doneB{a b out:Array Keyed}(h:aH a b out na nb)(e:nb=0):
  aT (a.toList++b.toList) (a.extract 0 na++b.extract 0 nb++out.reverse):=by
 unfold aH at h;subst e;unfold aT;rw[toList_append,toList_append];refine {h.perm,?_};have e0:(b.extract 0 0).toList=[]:=by simp
 rw[e0,append_nil];exact pairwise_append.mpr ⟨h.sR,h.so,h.oR⟩
def aH.first{a b out:Array Keyed}(h:aH a b out na nb)(e:nb=1)
  (hF:∀i,i<a.size->K b 0<=K a i):aT (a.toList++b.toList) (b.extract 0 nb++a.extract 0 na++out.reverse):=by
 unfold aH at h;unfold aT;rw[toList_append,toList_append];refine {h.flip.perm,?_};rw[append_assoc];refine pairwise_append.mpr {h.sS,pairwise_append.mpr ⟨h.sR,h.so,h.oR⟩,λx hx y hy=>?_};rcases mem_append.mp hy with hy | hy
 ·obtain ⟨i,i1,i2,i3,e1⟩:=aD hy
  obtain ⟨j,j1,j2,j3,e2⟩:=aD hx;have:j=0:=()
  subst this;unfold bx;rw[e1,e2];exact hF i i3
 ·exact h.oS x hx y hy
def aH.init(sa:∀i j,i<=j->j<a.size->K a i<=K a j)(sb:∀i j,i<=j->j<b.size->K b i<=K b j):aH a b #[] a.size b.size:=by
 unfold aH;exact ⟨by simp,by simp,by simpa using cJ sa,by simpa using cJ sb,by simp,by simp⟩
def wj:Array Keyed->Array Keyed->StateT SortSt Sem (Array Keyed):=sortPriv% PySem.Builtin.mergeHi
section
variable {prog:Program} {w:World} {A:Around} {E:Value->Shared->Prop} {s:Shared}
def pi{st:SortSt}(hk:kindOf st=oneType')(ha0:IntKeys a)(hb0:IntKeys b)
  (ha1:0<a.size) (hb1:0<b.size)
  (sa:∀i j,i<=j->j<a.size->K a i<=K a j) (sb:∀i j,i<=j->j<b.size->K b i<=K b j)
  (hfirst:∀i,i<a.size->K b 0<=K a i) (hlast:∀j,j<b.size->K b j<=K a (a.size-1))
  (h:∀r st',dj st st'->aT (a.toList++b.toList) r->Q r st'):
  wpS (model prog w) A E s (wj a b) Q st:=by
 refine wpS_bind (wpS_lift (wpAny_rule {rfl,?_}));obtain ⟨t0,p0,e0⟩:=ha0.at (i:=a.size-1) ();refine wpS_bind (az e0 ?_);have hI:aH a b (#[].push (.int (K a (a.size-1)) t0,p0)) (a.size-1) b.size:=(aH.init sa sb).pushA () e0 λi _ h2=>hlast i h2;have hI':aH a b #[(.int (K a (a.size-1)) t0,p0)] (a.size-1) b.size:=hI
 by_cases hone:a.size-1=0
 ·rw[if_pos (by simpa using hone)]
  exact wpS_pure (h _ _ ⟨rfl,rfl,rfl,rfl⟩ (hI'.doneA ()))
 rw[if_neg (by simpa using hone)]
 by_cases hone':b.size=1
 ·rw[if_pos (by simpa using hone')]
  exact wpS_pure (h _ _ ⟨rfl,rfl,rfl,rfl⟩ (hI'.first () hfirst))
 rw[if_neg (by simpa using hone')];refine wpS_bind (wpS_get ?_)
 let LI1:Nat->Option (Array Keyed)×Nat×Nat×Array Keyed×Nat->SortSt->Prop:=λx c st'=>dj st st'/\∃out ia ib mg,c=(none,ia,ib,out,mg)/\aH a b out ia ib/\1<=ia/\ia<=a.size/\2<=ib/\ib<=b.size/\x+ia+ib<a.size+b.size
 let LQ2:Option (Array Keyed)×Nat×Nat×Array Keyed×Nat->SortSt->Prop:=λc st'=>dj st st'/\∃r rest,c=(some r,rest)/\aT (a.toList++b.toList) r
 refine wpS_bind (wpS_mono (wpS_forRange
  (I:=LI1)
  (Q:=LQ2) ?step ?fin ?init) ?post)
 case init=>exact ⟨⟨rfl,rfl,rfl,rfl⟩,_,a.size-1,b.size,_,rfl,hI',(),(),(),(),()⟩
 case post=>
  rintro c st' ⟨hG,r,rest,rfl,hr⟩;exact wpS_pure (h r st' hG hr)
 case fin=>
  rintro c st' ⟨hG,out,ia,ib,mg,rfl,hL,h1,h2,h3,h4,h5⟩;omega
 case step=>
  rintro x c st' _ hx ⟨hG,out,ia,ib,mg,rfl,hL,hia,hia2,hib,hib2,hx2⟩
  dsimp -zeta only
  let LI3:Nat->Option (Array Keyed)×Nat×Nat×Array Keyed×Nat×Nat->SortSt->Prop:=λy c st''=>dj st st''/\∃out' ia' ib' cs,c=(none,ia',ib',out',cs)/\aH a b out' ia' ib'/\1<=ia'/\ia'<=a.size/\2<=ib'/\ib'<=b.size/\y+ia'+ib'<=ia+ib
  let LQ4:Option (Array Keyed)×Nat×Nat×Array Keyed×Nat×Nat->SortSt->Prop:=λc st''=>dj st st''/\((∃out' ia' ib' cs,c=(none,ia',ib',out',cs)/\aH a b out' ia' ib'/\1<=ia'/\ia'<=a.size/\2<=ib'/\ib'<=b.size/\ia'+ib'<ia+ib)\/(∃r rest,c=(some r,rest)/\aT (a.toList++b.toList) r))
  refine wpS_bind (wpS_mono (wpS_forRange
   (I:=LI3)
   (Q:=LQ4) ?step1 ?fin1 ?init1) ?post1)
  case init1=>exact ⟨hG,_,_,_,_,rfl,hL,hia,hia2,hib,hib2,by dsimp only;omega⟩
  case fin1=>
   rintro c st'' ⟨hG',out',ia',ib',cs,rfl,hL',h1,h2,h3,h4,h5⟩;exact {hG',.inl {_,_,_,_,rfl,hL',h1,h2,h3,h4,()}}
  case step1=>
   rintro y c st'' _ hy ⟨hG',out',ia',ib',⟨ac,bc⟩,rfl,hL',h1,h2,h3,h4,h5⟩;dsimp only;obtain ⟨tb,pb,eb⟩:=hb0.at (i:=ib'-1) ();obtain ⟨ta,pa,ea⟩:=ha0.at (i:=ia'-1) ();refine wpS_bind (az eb (wpS_bind (az ea (wpS_bind (ko (hG'.1.trans hk) ?_)))));dsimp only
   by_cases hless:K b (ib'-1)<K a (ia'-1)
   ·simp only[hless,decide_true,if_true]
    refine wpS_bind (az ea ?_);have hL2:=hL'.pushA h1 ea λj h4 h5=>by have:=sb j (ib'-1) () ();omega
    by_cases hend:ia'-1=0
    ·rw[if_pos (by simpa using hend)]
     exact wpS_pure {hG',.inr {_,_,rfl,hL2.doneA ()}}
    ·rw[if_neg (by simpa using hend)]
     split
     ·exact wpS_pure {hG',.inl {_,_,_,_,rfl,hL2,(),(),(),(),()}}
     ·exact wpS_pure {hG',_,_,_,_,rfl,hL2,(),(),(),(),()}
   ·simp only[hless,decide_false,Bool.false_eq_true,if_false]
    refine wpS_bind (az eb ?_);have hL2:=hL'.pushB () eb λj h4 h5=>by have:=sa j (ia'-1) () ();omega
    by_cases hend:ib'-1=1
    ·rw[if_pos (by simpa using hend)]
     exact wpS_pure {hG',.inr {_,_,rfl,hL2.first () hfirst}}
    ·rw[if_neg (by simpa using hend)]
     split
     ·exact wpS_pure {hG',.inl {_,_,_,_,rfl,hL2,(),(),(),(),()}}
     ·exact wpS_pure {hG',_,_,_,_,rfl,hL2,(),(),(),(),()}
  case post1=>
   rintro c st'' ⟨hG',(⟨out',ia',ib',⟨ac,bc⟩,rfl,hL',h1,h2,h3,h4,h5⟩ | ⟨r,⟨o2,i2,j2,cs⟩,rfl,hr⟩)⟩
   case inr=>
    dsimp only;exact wpS_pure {hG',r,_,rfl,hr}
   dsimp -zeta only
   refine wpS_bind (wpS_lift (wpAny_rule {rfl,?_}))
   let LI5:Nat->Option (Array Keyed)×Nat×Nat×Array Keyed×Nat×Nat×Nat->SortSt->Prop:=λy c st3=>dj st st3/\∃out3 ia3 ib3 cs,c=(none,ia3,ib3,out3,cs)/\aH a b out3 ia3 ib3/\1<=ia3/\ia3<=a.size/\2<=ib3/\ib3<=b.size/\ia3+ib3<ia+ib
   let LQ6:Option (Array Keyed)×Nat×Nat×Array Keyed×Nat×Nat×Nat->SortSt->Prop:=λc st3=>dj st st3/\((∃out3 ia3 ib3 cs,c=(none,ia3,ib3,out3,cs)/\aH a b out3 ia3 ib3/\1<=ia3/\ia3<=a.size/\2<=ib3/\ib3<=b.size/\ia3+ib3<ia+ib)\/(∃r rest,c=(some r,rest)/\aT (a.toList++b.toList) r))
   refine wpS_bind (wpS_mono (wpS_forRange
    (I:=LI5)
    (Q:=LQ6) ?step2 ?fin2 ⟨hG',_,_,_,_,rfl,hL',h1,h2,h3,h4,h5⟩) ?post2)
   case fin2=>
    rintro c st3 ⟨hG3,out3,ia3,ib3,cs,rfl,hL3,h4,h5,h6,h7,h8⟩;exact {hG3,.inl {_,_,_,_,rfl,hL3,h4,h5,h6,h7,h8}}
   case post2=>
    rintro c st3 ⟨hG3,(⟨out3,ia3,ib3,⟨mg3,ac3,bc3⟩,rfl,hL3,h4,h5,h6,h7,h8⟩ | ⟨r,⟨o2,i2,j2,mg2,cs⟩,rfl,hr⟩)⟩
    ·dsimp only
     refine wpS_bind (fA ?_);exact wpS_pure {hG3.gal _,_,_,_,_,rfl,hL3,h4,h5,h6,h7,()}
    ·dsimp only
     exact wpS_pure {hG3,r,_,rfl,hr}
   case step2=>
    clear hL hL' hx2 hx hia hib hia2 hib2 h1 h2 h3 h4;generalize hz:ia+ib=z;clear h5;rintro y c st3 _ hy ⟨hG3,out,ia,ib,⟨mg3,ac3,bc3⟩,rfl,hL,hia,hia2,hib,hib2,h6⟩
    extract_lets -underBinder +onlyGivenNames s1 na s2 nb s3 o s4 mg s5 ac bc
    dsimp -zeta only [s1,na,s2,nb,s3,o,s4,mg,s5,ac,bc]
    extract_lets -underBinder +onlyGivenNames jp
    refine ur (f:=jp) (λ_ _ t=>dj st t) ?_ λhj=>?_
    case' refine_2=>clear_value jp;split<;>exact hj _ _ _ hG3
    clear bc ac s5 mg s4 o s3 nb s2 na s1;intro _ mg st4 hG1;refine wpS_bind (fA ?_);have hG1:=hG1.gal mg;generalize lB st4 mg=st4 at hG1 ⊢;obtain ⟨tb,pb,eb⟩:=hb0.at (i:=ib-1) ();refine wpS_bind (az eb ?_);refine wpS_bind (cr (hG1.1.trans hk) ha0 () () (λi j h1 h2=>sa _ _ () ()) λk hk1 hk2 hk3=>?_)
    dsimp -zeta only
    extract_lets -underBinder +onlyGivenNames k' ac jp
    simp only[Nat.zero_add] at hk2 hk3;have hB0:∀i,i<k->i<a.size->K a i<=K b (ib-1):=by
     intro i h1 h2;have q1:=hk2 i h1;simp[aR] at q1;omega
    refine ur (f:=jp Unit.unit) (λi1 o1 t=>dj st t/\aH a b o1 i1 ib/\1<=i1/\i1<=ia/\∀i,i<i1->i<a.size->K a i<=K b (ib-1)) ?_ λhj=>?_
    case' refine_2=>
     clear_value jp
     split
     ·have hL1:=hL.blockA (i:=k) () λi j h1 h2 h3 h4 h5=>by
       have q1:=hk3 i () ();have q2:=sb j (ib-1) () ();simp[aR] at q1;omega
      by_cases hend1:k=0
      ·rw[if_pos (by simpa using hend1)]
       exact wpS_pure {hG1,.inr {_,_,rfl,hL1.doneA ()}}
      ·rw[if_neg (by simpa using hend1)]
       exact hj _ _ _ {hG1,hL1,(),(),hB0}
     ·have hk00:k=ia:=()
      subst hk00;exact hj _ _ _ {hG1,hL,(),(),hB0}
    clear hB0 hk1 hk2 hk3 hL eb hG1;rintro i1 o1 st4 ⟨hG1,hL1,hi1,hi2,hB1⟩
    clear_value ac
    clear k';obtain ⟨tb2,pb2,eb2⟩:=hb0.at (i:=ib-1) ();refine wpS_bind (az eb2 ?_);have hL2:=hL1.pushB () eb2 hB1
    by_cases hend:ib-1=1
    ·rw[if_pos (by simpa using hend)]
     exact wpS_pure {hG1,.inr {_,_,rfl,hL2.first () hfirst}}
    rw[if_neg (by simpa using hend)];obtain ⟨ta2,pa2,ea2⟩:=ha0.at (i:=i1-1) ();refine wpS_bind (az ea2 ?_);refine wpS_bind (cr (hG1.1.trans hk) hb0 () () (λi j h1 h2=>sb _ _ () ()) λk1 hk1 hk2 hk3=>?_)
    dsimp -zeta only
    extract_lets -underBinder +onlyGivenNames k' bc jp
    simp only[Nat.zero_add] at hk2 hk3;refine ur (f:=jp Unit.unit) (λj1 o2 t=>dj st t/\aH a b o2 i1 j1/\2<=j1/\j1<=ib-1/\j1<=k1) ?_ λhj=>?_
    case' refine_2=>
     clear_value jp
     split
     ·have hL3:=hL2.blockB (i:=k1) () λi j h1 h2 h3 h4 h5=>by
       have q1:=hk3 j () ();have q2:=sa i (i1-1) () ();simp[aR] at q1;omega
      by_cases hend2:k1=1
      ·rw[if_pos (by simpa using hend2)]
       exact wpS_pure {hG1,.inr {_,_,rfl,hL3.first () hfirst}}
      ·rw[if_neg (by simpa using hend2)]
       by_cases hend4:k1=0
       ·rw[if_pos (by simpa using hend4)]
        exact wpS_pure {hG1,.inr {_,_,rfl,hL3.doneB ()}}
       ·rw[if_neg (by simpa using hend4)]
        exact hj _ _ _ {hG1,hL3,(),(),()}
     ·exact hj _ _ _ {hG1,hL2,(),(),()}
    clear_value bc
    clear k' hk3 hL2 hL1 hG1 eb2;rintro j1 o2 st4 ⟨hG1,hL3,hj1,hj2,hj3⟩;refine wpS_bind (az ea2 ?_);have hL4:=hL3.pushA () ea2 λj h1 h2=>by
     have q1:=hk2 j ();simp[aR] at q1;omega
    by_cases hend3:i1-1=0
    ·rw[if_pos (by simpa using hend3)]
     exact wpS_pure {hG1,.inr {_,_,rfl,hL4.doneA ()}}
    rw[if_neg (by simpa using hend3)]
    split
    ·exact wpS_pure {hG1,.inl {_,_,_,_,rfl,hL4,(),(),(),(),()}}
    ·exact wpS_pure {hG1,_,_,_,_,rfl,hL4,(),(),(),(),()}
end
def aK(xs:Array Keyed)(lo hi:Nat):Prop:=∀i j,lo<=i->i<=j->j<hi->K xs i<=K xs j
def aK.join{lo mid hi:Nat}(h1:aK xs lo mid)(h2:aK xs mid hi)(h:lo<mid->mid<hi->K xs (mid-1)<=K xs mid):aK xs lo hi:=by
 intro i j hi1 hij hj
 by_cases hjm:j<mid
 ·exact h1 i j hi1 hij hjm
 by_cases him:mid<=i
 ·exact h2 i j him hij hj
 have a1:=h1 i (mid-1) hi1 () ();have a2:=h2 mid j (Nat.le_refl _) () hj;have a3:=h () ();omega
def bh(xs:Array Keyed)(sa:Nat)(l:List (Keyed×Nat)):Array Keyed:=l.foldl (λa x=>a.setIfInBounds (sa+x.2) x.1) xs
def gg(sa k:Nat):∀(l:List Keyed) (n:Nat) (xs:Array Keyed),sa+n+l.length<=xs.size->
  (bh xs sa (l.zipIdx n))[k]?=if sa+n<=k/\k<sa+n+l.length then l[k-(sa+n)]? else xs[k]?
 | [],n,xs,_=>by
  rw[if_neg (by rw[length_nil];omega)];rfl
 | x::l,n,xs,h=>by
  rw[List.zipIdx_cons];show (bh (xs.setIfInBounds (sa+n) x) sa (l.zipIdx (n+1)))[k]?=_;rw[length_cons] at h ⊢;rw[gg sa k l (n+1) _ (by rw[Array.size_setIfInBounds];omega)]
  by_cases h1:k=sa+n
  ·subst h1
   rw[if_neg (),if_pos (),sub_self,List.getElem?_cons_zero,Array.getElem?_setIfInBounds_self_of_lt ()]
  ·by_cases h2:sa+n<=k/\k<sa+n+(l.length+1)
   ·rw[if_pos (),if_pos h2,show k-(sa+n)=(k-(sa+(n+1)))+1 by omega,List.getElem?_cons_succ]
   ·rw[if_neg (),if_neg h2,Array.getElem?_setIfInBounds_ne ()]
def nS(h:sa+l.length<=xs.size):
  (bh xs sa l.zipIdx).toList=xs.toList.take sa++l++xs.toList.drop (sa+l.length):=by
 apply ext_getElem?
 intro k;rw[getElem?_toList,gg sa k l 0 xs ()];rw[append_assoc,getElem?_append,getElem?_append,length_take,length_toList (xs:=xs),min_eq_left (),List.getElem?_drop]
 by_cases h1:k<sa
 ·rw[if_neg (),if_pos h1,List.getElem?_take_of_lt h1,getElem?_toList]
 ·rw[if_neg h1]
  by_cases h2:k-sa<l.length
  ·rw[if_pos (),if_pos h2];rfl
  ·rw[if_neg (),if_neg h2,getElem?_toList]
   congr 1;omega
def wk{xs:Array Keyed}{i j k:Nat}(h1:i<=j)(h2:j<=k):
  xs.toList=xs.toList.take i++((xs.extract i j).toList++(xs.extract j k).toList)++xs.toList.drop k:=by
 have e1:xs.toList.drop i=(xs.extract i j).toList++xs.toList.drop j:=by
  have:=di (xs:=xs) (i:=i) (k:=j-i)
  rwa [show i+(j-i)=j by omega] at this
 have e2:xs.toList.drop j=(xs.extract j k).toList++xs.toList.drop k:=by
  have:=di (xs:=xs) (i:=j) (k:=k-j)
  rwa [show j+(k-j)=k by omega] at this
 have e3:=(List.take_append_drop i xs.toList).symm;rw[e1,e2] at e3;rw[append_assoc,append_assoc];exact e3
def be{lo hi i:Nat}(h:lo+i<hi)(h2:hi<=xs.size):K (xs.extract lo hi) i=K xs (lo+i):=by
 apply K_congr
 rw[Array.getElem?_extract,if_pos ()]
def IntKeys.extract(h:IntKeys xs){lo hi:Nat}:IntKeys (xs.extract lo hi):=by
 intro p hp;refine h p ?_;rw[Array.toList_extract,List.extract_eq_take_drop] at hp;exact List.mem_of_mem_drop (List.mem_of_mem_take hp)
def nT{xs r:Array Keyed}{sa sb k n1 nb:Nat}(hk:k<=sb-sa)(h1:sa<=sb)(hn:n1<=nb)(hb:sb+nb<=xs.size)
  (sA:aK xs sa sb) (sB:aK xs sb (sb+nb)) (hk0:sa+k<sb) (hn0:0<n1)
  (g1:∀i,sa<=i->i<sa+k->K xs i<=K xs sb) (g2:∀j,n1<=j->j<nb->K xs (sb-1)<=K xs (sb+j))
  (hr:aT ((xs.extract (sa+k) sb).toList++(xs.extract sb (sb+n1)).toList) r):
  (bh xs (sa+k) r.toList.zipIdx).Perm xs/\aK (bh xs (sa+k) r.toList.zipIdx) sa (sb+nb) /\
   (∀i,i<sa\/sb+nb<=i->(bh xs (sa+k) r.toList.zipIdx)[i]?=xs[i]?):=by
 obtain ⟨hp,hs⟩:=hr;have hlen:r.toList.length=sb-(sa+k)+n1:=by
  rw[hp.length_eq,length_append,length_toList,length_toList,size_extract,size_extract];omega
 have hfit:sa+k+r.toList.length<=xs.size:=()
 have hget:∀i,(bh xs (sa+k) r.toList.zipIdx)[i]?=if sa+k<=i/\i<sb+n1 then r.toList[i-(sa+k)]? else xs[i]?:=by
  intro i;rw[gg (sa+k) i r.toList 0 xs (),hlen]
  by_cases hc:sa+k<=i/\i<sb+n1
  ·rw[if_pos hc,if_pos ()];rfl
  ·rw[if_neg hc,if_neg ()]
 have hout:∀i,¬ (sa+k<=i/\i<sb+n1)->K (bh xs (sa+k) r.toList.zipIdx) i=K xs i:=λi hi=>K_congr (by rw[hget,if_neg hi]);have hin:∀i,sa+k<=i->i<sb+n1->∃p,sa+k<=p/\p<sb+n1/\K (bh xs (sa+k) r.toList.zipIdx) i=K xs p:=by
  intro i i1 i2;have hl:i-(sa+k)<r.toList.length:=()
  have e:(bh xs (sa+k) r.toList.zipIdx)[i]?=some r.toList[i-(sa+k)]:=by
   rw[hget,if_pos ⟨i1,i2⟩,List.getElem?_eq_getElem hl]
  have hm:r.toList[i-(sa+k)]∈(xs.extract (sa+k) sb).toList++(xs.extract sb (sb+n1)).toList:=hp.mem_iff.mp (List.getElem_mem hl);have ev:K (bh xs (sa+k) r.toList.zipIdx) i=j0 r.toList[i-(sa+k)]:=by unfold K j0;rw[e]
  rcases mem_append.mp hm with hm | hm
  ·obtain ⟨p,p1,p2,p3,pe⟩:=aD hm
   exact ⟨p,p1,(),by rw[ev,pe]⟩
  ·obtain ⟨p,p1,p2,p3,pe⟩:=aD hm
   exact ⟨p,(),p2,by rw[ev,pe]⟩
 refine {?_,?_,?_}
 ·rw[Array.perm_iff_toList_perm,nS hfit]
  conv=>rhs;rw[wk (xs:=xs) (i:=sa+k) (j:=sb) (k:=sb+n1) () ()]
  rw[show sa+k+r.toList.length=sb+n1 by omega];exact List.Perm.append_right _ (List.Perm.append_left _ hp)
 ·intro i j hi1 hij hj1
  by_cases ci:sa+k<=i/\i<sb+n1
  ·by_cases cj:j<sb+n1
   ·
    have li:i-(sa+k)<r.toList.length:=()
    have lj:j-(sa+k)<r.toList.length:=()
    have ei:K (bh xs (sa+k) r.toList.zipIdx) i=j0 r.toList[i-(sa+k)]:=by
     unfold K j0;rw[hget,if_pos ci,List.getElem?_eq_getElem li]
    have ej:K (bh xs (sa+k) r.toList.zipIdx) j=j0 r.toList[j-(sa+k)]:=by
     unfold K j0;rw[hget,if_pos (),List.getElem?_eq_getElem lj]
    rw[ei,ej]
    by_cases hd:i=j
    ·subst hd;exact Int.le_refl _
    ·exact List.pairwise_iff_getElem.mp hs _ _ li lj ()
   ·rw[hout j ()]
    obtain ⟨p,p1,p2,pe⟩:=hin i ci.1 ci.2;rw[pe]
    by_cases hpb:p<sb
    ·have a1:=sA p (sb-1) () () ()
     have a2:=g2 (j-sb) () ();rw[show sb+(j-sb)=j by omega] at a2;omega
    ·exact sB p j () () hj1
  ·rw[hout i ci]
   by_cases hlt:i<sa+k
   ·have a0:=g1 i hi1 hlt
    by_cases cj:sa+k<=j/\j<sb+n1
    ·obtain ⟨p,p1,p2,pe⟩:=hin j cj.1 cj.2
     rw[pe]
     by_cases hpb:p<sb
     ·exact sA i p hi1 () hpb
     ·have:=sB sb p (Nat.le_refl _) () ();omega
    ·rw[hout j cj]
     by_cases hjb:j<sb
     ·exact sA i j hi1 hij hjb
     ·have:=sB sb j (Nat.le_refl _) () hj1;omega
   ·rw[hout j ()]
    exact sB i j () hij hj1
 ·intro i hi
  rw[hget,if_neg ()]
section
variable {prog:Program} {w:World} {A:Around} {E:Value->Shared->Prop} {s:Shared}
def yR{σ:Type}{M:Model}{Q:PUnit->σ->Prop}{st st':σ}(h:Q ⟨⟩ st'):wpS M A E s (set st':StateT σ Sem PUnit) Q st:=by
 unfold wpS;rw[StateT.run_set];exact wpAny_pure ⟨rfl,h⟩
def pj{st:SortSt}{i sa na pw nb pw2:Nat}{Q:Bool->SortSt->Prop}(hk:kindOf st=oneType')(hf:failedOf st=none)
  (h0:IntKeys (arrOf st)) (p1:(pendingOf st)[i]?=some (sa,na,pw)) (p2:(pendingOf st)[i+1]?=some (sa+na,nb,pw2))
  (hna:0<na) (hnb:0<nb) (hb:sa+na+nb<=(arrOf st).size)
  (sA:aK (arrOf st) sa (sa+na)) (sB:aK (arrOf st) (sa+na) (sa+na+nb))
  (h:∀st',kindOf st'=oneType'->failedOf st'=none->(arrOf st').Perm (arrOf st)->
   pendingOf st'=((pendingOf st).setIfInBounds i (sa,na+nb,pw)).eraseIdxIfInBounds (i+1)->
   aK (arrOf st') sa (sa+na+nb)->(∀j,j<sa\/sa+na+nb<=j->(arrOf st')[j]?=(arrOf st)[j]?)->Q true st'):
  wpS (model prog w) A E s (mergeAt' i) Q st:=by
 rcases st with ⟨κ,xs,pend,mg,fl⟩;dsimp only[arrOf,kindOf,failedOf,pendingOf] at hk hf h0 p1 p2 hb sA sB h;refine wpS_bind (wpS_get ?_);dsimp only;rw[p1,p2];dsimp only;refine wpS_bind (yR ?_);obtain ⟨tb,qb,eb⟩:=h0.at (i:=sa+na) ();refine wpS_bind (az eb ?_);refine wpS_bind (cr hk h0 () hna (λi j h1 h2=>sA _ _ () () ()) λk hk1 hk2 hk3=>?_);dsimp only
 by_cases hnk:na-k=0
 ·rw[if_pos (by simpa using hnk)]
  refine wpS_pure (h _ hk hf (Array.Perm.refl _) rfl (sA.join sB λ_ _=>?_) λ_ _=>rfl);have q1:=hk2 (na-1) ();rw[show sa+(na-1)=sa+na-1 by omega] at q1;simp[aR] at q1;exact q1
 rw[if_neg (by simpa using hnk)];rw[show sa+k+(na-k)-1=sa+na-1 by omega];obtain ⟨ta,qa,ea⟩:=h0.at (i:=sa+na-1) ();refine wpS_bind (az ea ?_);refine wpS_bind (cr hk h0 () () (λi j h1 h2=>sB _ _ () () ()) λn1 hn1 hn2 hn3=>?_);dsimp only;have g2:∀j,n1<=j->j<nb->K xs (sa+na-1)<=K xs (sa+na+j):=by
  intro j j1 j2;have q1:=hn3 j j1 j2;simp[aR] at q1;exact q1
 by_cases hn0:n1=0
 ·rw[if_pos (by simpa using hn0)]
  refine wpS_pure (h _ hk hf (Array.Perm.refl _) rfl (sA.join sB λ_ _=>?_) λ_ _=>rfl);exact g2 0 () hnb
 rw[if_neg (by simpa using hn0)];have g1:∀i,sa<=i->i<sa+k->K xs i<=K xs (sa+na):=by
  intro i i1 i2;have q1:=hk2 (i-sa) ();rw[show sa+(i-sa)=i by omega] at q1;simp[aR] at q1;exact q1
 have hsx:(xs.extract (sa+k) (sa+na)).size=na-k:=by rw[size_extract];omega
 have hsy:(xs.extract (sa+na) (sa+na+n1)).size=n1:=by rw[size_extract];omega
 have ksa:∀i j,i<=j->j<(xs.extract (sa+k) (sa+na)).size->K (xs.extract (sa+k) (sa+na)) i<=K (xs.extract (sa+k) (sa+na)) j:=by
  intro i j hij hj;rw[be () (),be () ()];exact sA _ _ () () ()
 have ksb:∀i j,i<=j->j<(xs.extract (sa+na) (sa+na+n1)).size->K (xs.extract (sa+na) (sa+na+n1)) i<=K (xs.extract (sa+na) (sa+na+n1)) j:=by
  intro i j hij hj;rw[be () (),be () ()];exact sB _ _ () () ()
 have kf:∀i,i<(xs.extract (sa+k) (sa+na)).size->K (xs.extract (sa+na) (sa+na+n1)) 0<=K (xs.extract (sa+k) (sa+na)) i:=by
  intro i hi;rw[be () (),be () ()];have q1:=hk3 (k+i) () ();rw[show sa+(k+i)=sa+k+i by omega] at q1;simp[aR] at q1;simp only[Nat.add_zero];omega
 have kl:∀j,j<(xs.extract (sa+na) (sa+na+n1)).size->K (xs.extract (sa+na) (sa+na+n1)) j <=
   K (xs.extract (sa+k) (sa+na)) ((xs.extract (sa+k) (sa+na)).size-1):=by
  intro j hj;rw[be () (),be () (),hsx,show sa+k+(na-k-1)=sa+na-1 by omega];have q1:=hn2 j ();simp[aR] at q1;omega
 have fin:∀r st',dj (SortSt.mk' κ xs ((pend.setIfInBounds i (sa,na+nb,pw)).eraseIdxIfInBounds (i+1)) mg fl) st'->
   aT ((xs.extract (sa+k) (sa+na)).toList++(xs.extract (sa+na) (sa+na+n1)).toList) r->
   wpS (model prog w) A E s (do
    modify λs=>setArr s (bh (arrOf s) (sa+k) r.toList.zipIdx)
    return (failedOf (<- get)).isNone) Q st':=by
  rintro r st' ⟨e1,e2,e3,e4⟩ hr;refine wpS_bind (wpS_modify (wpS_bind (wpS_get (wpS_pure ?_))));have ef:failedOf st'=none:=e4.trans hf;have ea:arrOf st'=xs:=e2;obtain ⟨m1,m2,m3⟩:=nT (nb:=nb) (k:=k) () () hn1 hb sA sB () () g1 g2 hr;rw[<- ea] at m1 m2 m3;have:=h (setArr st' (bh (arrOf st') (sa+k) r.toList.zipIdx)) (e1.trans hk) ef (by rw[ea] at m1 ⊢;exact m1) e3 m2 (λj hj=>by rw[<- ea];exact m3 j hj);show Q (Option.isNone (failedOf st')) _;rw[ef];exact this
 by_cases hle:na-k<=n1
 ·rw[if_pos hle]
  exact wpS_bind (ph hk h0.extract h0.extract () () ksa ksb kf kl fin)
 ·rw[if_neg hle]
  exact wpS_bind (pi hk h0.extract h0.extract () () ksa ksb kf kl fin)
end
structure bO(lo hi:Nat)(st st':SortSt):Prop where
 kind:kindOf st'=kindOf st
 failed:failedOf st'=failedOf st
 pend:pendingOf st'=pendingOf st
 perm:(arrOf st').Perm (arrOf st)
 out:∀j,j<lo\/hi<=j->(arrOf st')[j]?=(arrOf st)[j]?
def bO.refl(lo hi:Nat)(st:SortSt):bO lo hi st st:=⟨rfl,rfl,rfl,Array.Perm.refl _,λ_ _=>rfl⟩
def bO.size{lo hi:Nat}{st st':SortSt}(h:bO lo hi st st'):(arrOf st').size=(arrOf st).size:=h.perm.size_eq
def bO.trans{lo hi:Nat}{st st' st'':SortSt}(h:bO lo hi st st')(g:bO lo hi st' st''):bO lo hi st st'':=
 ⟨g.kind.trans h.kind,g.failed.trans h.failed,g.pend.trans h.pend,g.perm.trans h.perm,λj hj=>(g.out j hj).trans (h.out j hj)⟩
def bO.arr{lo hi:Nat}{st:SortSt}(hp:ys.Perm (arrOf st))(ho:∀j,j<lo\/hi<=j->ys[j]?=(arrOf st)[j]?):bO lo hi st (setArr st ys):=
 ⟨rfl,rfl,rfl,hp,ho⟩
def IntKeys.perm(h:IntKeys xs)(p:ys.Perm xs):IntKeys ys:=
 λq hq=>h q ((Array.perm_iff_toList_perm.mp p).mem_iff.mp hq)
section
variable {prog:Program} {w:World} {A:Around} {E:Value->Shared->Prop} {s:Shared}
def gS{st:SortSt}(hk:kindOf st=oneType')(h0:IntKeys (arrOf st))(hi:i<(arrOf st).size)(hj:j<(arrOf st).size)
  (h:Q (some (decide (K (arrOf st) i<K (arrOf st) j))) st):wpS (model prog w) A E s (ltAt' i j) Q st:=by
 obtain ⟨t,p,e1⟩:=h0.at hi;obtain ⟨u,q,e2⟩:=h0.at hj;exact wpS_ltAt hk e1 e2 h
def wm{st:SortSt}(h:Q Unit.unit (setArr st (bubble (arrOf st) i (i-j)))):wpS (model prog w) A E s (moveDown' i j) Q st:=by
 rw[moveDown'_eq];exact wpS_modify h
def ut{st:SortSt}{lo n ok:Nat}(hk:kindOf st=oneType')(h0:IntKeys (arrOf st))(hn:lo+n<=(arrOf st).size)(hok:ok<=n)
  (hs:aK (arrOf st) lo (lo+ok)) (h:∀st',bO lo (lo+n) st st'->aK (arrOf st') lo (lo+n)->Q true st'):
  wpS (model prog w) A E s (binarySort' lo n ok) Q st:=by
 refine wpS_bind (wpS_mono (wpS_forRange (I:=λk c st'=>c=(none,Unit.unit)/\bO lo (lo+n) st st'/\aK (arrOf st') lo (lo+min k n))
  (Q:=λc st'=>c=(none,Unit.unit)/\bO lo (lo+n) st st'/\aK (arrOf st') lo (lo+n)) ?step ?fin ?init) ?post)
 case post=>
  rintro c st' ⟨rfl,hM,hs'⟩;exact wpS_pure (h st' hM hs')
 case init=>
  refine {rfl,bO.refl _ _ _,λi j hi hij hj=>?_}
  by_cases h1:ok=0
  ·have:i=j:=()
   subst this;exact Int.le_refl _
  ·exact hs i j hi hij ()
 case fin=>
  rintro c st' ⟨hc,hM,hs'⟩;refine {hc,hM,?_}
  rwa [show min (max (max ok 1) n) n=n by omega] at hs'
 case step=>
  rintro k c st' hak hkn ⟨rfl,hM,hs'⟩;rw[show min k n=k by omega] at hs';have hz:=hM.size;have h0':=h0.perm hM.perm;refine wpS_bind (wpS_mono (wpS_forRange (I:=λx c st''=>st''=st'/\∃l r,c=(none,l,r)/\l<=r/\r<=k/\r-l<=k-x /\
    (∀i,lo<=i->i<lo+l->K (arrOf st') i<=K (arrOf st') (lo+k))/\(∀i,lo+r<=i->i<lo+k->K (arrOf st') (lo+k)<K (arrOf st') i))
   (Q:=λc st''=>st''=st'/\∃l r,c=(none,l,r)/\l<=k /\
    (∀i,lo<=i->i<lo+l->K (arrOf st') i<=K (arrOf st') (lo+k))/\(∀i,lo+l<=i->i<lo+k->K (arrOf st') (lo+k)<K (arrOf st') i)) ?istep ?ifin ?iinit) ?ipost)
  case iinit=>exact ⟨rfl,0,k,rfl,(),(),(),λi hi hj=>(),λi h1 h2=>()⟩
  case ifin=>
   rintro c st'' ⟨rfl,l,r,rfl,hlr,hrk,hm,hlo,hhi⟩;have:l=r:=()
   subst this;exact ⟨rfl,l,l,rfl,hrk,hlo,hhi⟩
  case istep=>
   rintro x c st'' _ hxk ⟨rfl,l,r,rfl,hlr,hrk,hm,hlo,hhi⟩;dsimp only
   by_cases hge:l>=r
   ·rw[if_pos hge]
    have:l=r:=()
    subst this;exact wpS_pure ⟨rfl,l,l,rfl,hrk,hlo,hhi⟩
   ·rw[if_neg hge]
    refine wpS_bind (gS (hM.kind.trans hk) h0' () () ?_)
    by_cases hless:K (arrOf st'') (lo+k)<K (arrOf st'') (lo+(l+r)/2)
    ·simp only[hless,decide_true,if_true]
     refine wpS_pure {rfl,l,(l+r)/2,rfl,(),(),(),hlo,λi h1 h2=>?_};exact Int.lt_of_lt_of_le hless (hs' _ _ () h1 h2)
    ·simp only[hless,decide_false,Bool.false_eq_true,if_false]
     refine wpS_pure {rfl,(l+r)/2+1,r,rfl,(),(),(),λi h1 h2=>?_,hhi};exact Int.le_trans (hs' i (lo+(l+r)/2) h1 () ()) (Int.not_lt.mp hless)
  case ipost=>
   rintro c st'' ⟨rfl,l,r,rfl,hlk,hlo,hhi⟩;dsimp only;refine wpS_bind (wm (wpS_pure {rfl,hM.trans (bO.arr (bubble_perm _ _ _) ?_),?_}))
   ·intro j hj
    rw[getElem?_bubble () _ (),if_neg (),if_neg ()]
   ·rw[show min (k+1) n=k+1 by omega]
    intro i j hi hij hj;show K (bubble (arrOf st'') (lo+k) (lo+k-(lo+l))) i<=K (bubble (arrOf st'') (lo+k) (lo+k-(lo+l))) j;rw[K_bubble () (),K_bubble () (),show lo+k-(lo+k-(lo+l))=lo+l by omega]
    repeat' split
    all_goals first
     | (exfalso;omega)
     | exact Int.le_refl _
     | exact hlo _ () ()
     | exact Int.le_of_lt (hhi _ () ())
     | exact hs' _ _ () () ()
end
def pk(xs:Array Keyed)(lo hi:Nat):Prop:=∀i j,lo<=i->i<=j->j<hi->K xs j<=K xs i
def bO.mirror{lo hi i j:Nat}{st:SortSt}(h1:lo<=i)(h2:j<=hi)(hj:j<=(arrOf st).size):
  bO lo hi st (setArr st (mirror (arrOf st) i j ((j-i)/2))):=
 bO.arr (mirror_perm _ _ _ _) λk hk=>by rw[getElem?_mirror_all hj,if_neg ()]
def pk.mirror{st:SortSt}{lo x:Nat}(hN:pk (arrOf st) lo (lo+x))(hz:lo+x<=(arrOf st).size):
  aK (arrOf (setArr st (mirror (arrOf st) lo (lo+x) ((lo+x-lo)/2)))) lo (lo+x):=by
 intro i j i1 hij hj;show K (PyProof.Rows.mirror (arrOf st) _ _ _) i<=K (PyProof.Rows.mirror (arrOf st) _ _ _) j;rw[K_mirror hz,K_mirror hz,if_pos (),if_pos ()];exact hN _ _ () () ()
section
variable {prog:Program} {w:World} {A:Around} {E:Value->Shared->Prop} {s:Shared}
def uu{st:SortSt}{lo nrem:Nat}(hk:kindOf st=oneType')(h0:IntKeys (arrOf st))(hn:lo+nrem<=(arrOf st).size)(h1:1<=nrem)
  (h:∀m st',bO lo (lo+nrem) st st'->1<=m->m<=nrem->aK (arrOf st') lo (lo+m)->Q (some m) st'):
  wpS (model prog w) A E s (countRun' lo nrem) Q st:=by
 refine wpS_bind (wpS_mono (wpS_forRange (I:=λx c st'=>st'=st/\c=(none,x)/\aK (arrOf st) lo (lo+x))
  (Q:=λc st'=>st'=st/\∃n,c=(none,n)/\1<=n/\n<=nrem/\aK (arrOf st) lo (lo+n)/\(n=nrem\/K (arrOf st) (lo+n)<K (arrOf st) (lo+n-1))) ?step ?fin ?init) ?post)
 case init=>exact ⟨rfl,rfl,λi j _ hij hj=>by have:i=j:=();subst this;exact Int.le_refl _⟩
 case fin=>
  rintro c st' ⟨rfl,rfl,hs'⟩;rw[show max 1 nrem=nrem by omega] at hs' ⊢;exact {rfl,nrem,rfl,h1,Nat.le_refl _,hs',.inl rfl}
 case step=>
  rintro x c st' hax hxn ⟨rfl,rfl,hs'⟩;dsimp only;refine wpS_bind (gS hk h0 () () ?_)
  by_cases hless:K (arrOf st') (lo+x)<K (arrOf st') (lo+x-1)
  ·simp only[hless,decide_true,if_true]
   exact wpS_pure {rfl,x,rfl,hax,(),hs',.inr hless}
  ·simp only[hless,decide_false,Bool.false_eq_true,if_false]
   refine wpS_pure {rfl,rfl,?_};refine aK.join (mid:=lo+x) hs' (λi j _ _ _=>?_) λ_ _=>Int.not_lt.mp hless;have:i=j:=()
   subst this;exact Int.le_refl _
 case post=>
  rintro c st' ⟨rfl,n,rfl,hn1,hn2,hs,hor⟩;dsimp only
  by_cases hnn:n=nrem
  ·rw[if_pos (by simpa using hnn)]
   exact wpS_pure (h n _ (bO.refl _ _ _) hn1 hn2 hs)
  rw[if_neg (by simpa using hnn)];have hlt:=hor.resolve_left hnn
  by_cases hgt:n>1
  rw[if_pos hgt];refine wpS_bind (gS hk h0 () () ?_)
  by_cases hrose:K (arrOf st') lo<K (arrOf st') (lo+n-1)
  ·simp only[hrose,decide_true,if_true]
   exact wpS_pure (h n _ (bO.refl _ _ _) hn1 hn2 hs)
  simp only[hrose,decide_false,Bool.false_eq_true,if_false];have hall:∀k,lo<=k->k<lo+n->K (arrOf st') k=K (arrOf st') (lo+n-1):=by
   intro k k1 k2;have a1:=hs lo k (Nat.le_refl _) k1 k2;have a2:=hs k (lo+n-1) k1 () ();omega
  refine wpS_bind (wpS_reverse ?_);have hM1:bO lo (lo+nrem) st' (setArr st' (mirror (arrOf st') lo (lo+n) ((lo+n-lo)/2))):=bO.mirror (Nat.le_refl _) () ();have hN1:pk (arrOf (setArr st' (mirror (arrOf st') lo (lo+n) ((lo+n-lo)/2)))) lo (lo+(n+1)):=by
   intro i j i1 hij hj;show K (mirror (arrOf st') _ _ _) j<=K (mirror (arrOf st') _ _ _) i;rw[K_mirror_equal () hall,K_mirror_equal () hall]
   by_cases hjn:j<lo+n
   ·rw[hall i i1 (),hall j () hjn];exact Int.le_refl _
   ·have hj':j=lo+n:=()
    subst hj'
    by_cases hi':i=lo+n
    ·subst hi';exact Int.le_refl _
    ·rw[hall i i1 ()];exact Int.le_of_lt hlt
  generalize setArr st' (mirror (arrOf st') lo (lo+n) ((lo+n-lo)/2))=st1 at hM1 hN1 ⊢
  rotate_left
  rw[if_neg hgt];have hM1:bO lo (lo+nrem) st' st':=bO.refl _ _ _;have hN1:pk (arrOf st') lo (lo+(n+1)):=by
   intro i j i1 hij hj
   by_cases hi':i=j
   ·subst hi';exact Int.le_refl _
   ·have e1:i=lo+n-1:=()
    have e2:j=lo+n:=()
    subst e1;subst e2;exact Int.le_of_lt hlt
  all_goals
   refine wpS_bind (wpS_lift (wpAny_rule {rfl,?_}));refine wpS_bind (wpS_mono (wpS_forRange
    (I:=λx c st2=>∃neq,c=(none,x,neq)/\bO lo (lo+nrem) st' st2/\pk (arrOf st2) lo (lo+x)/\neq+1<=x /\
     (∀i,lo+x-(neq+1)<=i->i<lo+x->K (arrOf st2) i=K (arrOf st2) (lo+x-1)))
    (Q:=λc st2=>∃x neq,c=(none,x,neq)/\bO lo (lo+nrem) st' st2/\pk (arrOf st2) lo (lo+x)/\1<=x/\x<=nrem/\neq+1<=x /\
     (∀i,lo+x-(neq+1)<=i->i<lo+x->K (arrOf st2) i=K (arrOf st2) (lo+x-1))) ?dstep ?dfin ?dinit) ?dpost)
   case dinit=>exact ⟨0,rfl,hM1,hN1,(),λi i1 i2=>by congr 1;omega⟩
   case dfin=>
    rintro c st2 ⟨neq,rfl,hM2,hN2,hq,he⟩;rw[show max (n+1) nrem=nrem by omega] at hN2 hq he ⊢;exact {nrem,neq,rfl,hM2,hN2,h1,Nat.le_refl _,hq,he}
   case dstep=>
    rintro x c st2 hax hxn ⟨neq,rfl,hM2,hN2,hq,he⟩;dsimp only;have hz:=hM2.size;have h02:=h0.perm hM2.perm;refine wpS_bind (gS (hM2.kind.trans hk) h02 () () ?_)
    by_cases hless:K (arrOf st2) (lo+x)<K (arrOf st2) (lo+x-1)
    ·simp only[hless,decide_true,if_true]
     have step1:∀ys:Array Keyed,(∀k,K ys k=K (arrOf st2) k)->pk ys lo (lo+(x+1)):=by
      intro ys hy i j i1 hij hj;rw[hy,hy]
      by_cases hjx:j<lo+x
      ·exact hN2 i j i1 hij hjx
      ·have hj':j=lo+x:=()
       subst hj'
       by_cases hi':i=lo+x
       ·subst hi';exact Int.le_refl _
       ·have:=hN2 i (lo+x-1) i1 () ();omega
     by_cases hneq:neq>0
     ·rw[if_pos hneq]
      refine wpS_bind (wpS_reverse (wpS_pure ⟨0,rfl,hM2.trans (bO.mirror () () ()),step1 _ (K_mirror_equal () he),(),λi i1 i2=>by congr 1;omega⟩))
     ·rw[if_neg hneq]
      exact wpS_pure ⟨0,rfl,hM2,step1 _ (λ_=>rfl),(),λi i1 i2=>by congr 1;omega⟩
    ·simp only[hless,decide_false,Bool.false_eq_true,if_false]
     refine wpS_bind (gS (hM2.kind.trans hk) h02 () () ?_)
     by_cases hlarger:K (arrOf st2) (lo+x-1)<K (arrOf st2) (lo+x)
     ·simp only[hlarger,decide_true,if_true]
      exact wpS_pure {x,neq,rfl,hM2,hN2,(),(),hq,he}
     ·simp only[hlarger,decide_false,Bool.false_eq_true,if_false]
      have heqx:K (arrOf st2) (lo+x)=K (arrOf st2) (lo+x-1):=()
      refine wpS_pure {neq+1,rfl,hM2,λi j i1 hij hj=>?_,(),λi i1 i2=>?_}
      ·by_cases hjx:j<lo+x
       ·exact hN2 i j i1 hij hjx
       ·have hj':j=lo+x:=()
        subst hj'
        by_cases hi':i=lo+x
        ·subst hi';exact Int.le_refl _
        ·rw[heqx];exact hN2 i (lo+x-1) i1 () ()
      ·rw[show lo+(x+1)-1=lo+x by omega]
       by_cases hix:i=lo+x
       ·subst hix;rfl
       ·rw[heqx];exact he i () ()
   case dpost=>
    rintro c st2 ⟨x,neq,rfl,hM2,hN2,hx1,hx2,hq,he⟩;dsimp only;have hz:=hM2.size
    by_cases hneq:neq>0
    rw[if_pos hneq];refine wpS_bind (wpS_reverse ?_);have hM3:bO lo (lo+nrem) st' (setArr st2 (mirror (arrOf st2) (lo+x-(neq+1)) (lo+x) ((lo+x-(lo+x-(neq+1)))/2))):=
     hM2.trans (bO.mirror () () ())
    have hN3:pk (arrOf (setArr st2 (mirror (arrOf st2) (lo+x-(neq+1)) (lo+x) ((lo+x-(lo+x-(neq+1)))/2)))) lo (lo+x):=by
     intro i j i1 hij hj;show K (mirror (arrOf st2) _ _ _) j<=K (mirror (arrOf st2) _ _ _) i;rw[K_mirror_equal () he,K_mirror_equal () he];exact hN2 i j i1 hij hj
    generalize setArr st2 (mirror (arrOf st2) (lo+x-(neq+1)) (lo+x) ((lo+x-(lo+x-(neq+1)))/2))=st3 at hM3 hN3 ⊢
    rotate_left
    rw[if_neg hneq];have hM3:=hM2;have hN3:=hN2;generalize st2=st3 at hM3 hN3 ⊢
    all_goals
     have hz3:=hM3.size;refine wpS_bind (wpS_reverse ?_);have hM4:=hM3.trans (bO.mirror (hi:=lo+nrem) (i:=lo) (j:=lo+x) (Nat.le_refl _) () ());have hz4:=hM4.size;have h04:=h0.perm hM4.perm;have hs4:=hN3.mirror ()
     revert hM4 hs4 hz4 h04
     generalize setArr st3 (mirror (arrOf st3) lo (lo+x) ((lo+x-lo)/2))=st4;intro hM4 hz4 h04 hs4;refine wpS_bind (wpS_mono (wpS_forRange (I:=λy c st5=>st5=st4/\c=(none,y)/\aK (arrOf st4) lo (lo+y))
      (Q:=λc st5=>st5=st4/\∃m,c=(none,m)/\1<=m/\m<=nrem/\aK (arrOf st4) lo (lo+m)) ?astep ?afin ⟨rfl,rfl,hs4⟩) ?apost)
     case afin=>
      rintro c st5 ⟨rfl,rfl,hs5⟩;rw[show max x nrem=nrem by omega] at hs5 ⊢;exact {rfl,nrem,rfl,h1,Nat.le_refl _,hs5}
     case apost=>
      rintro c st5 ⟨rfl,m,rfl,m1,m2,hs5⟩;exact wpS_pure (h m _ hM4 m1 m2 hs5)
     case astep=>
      rintro y c st5 hay hyn ⟨rfl,rfl,hs5⟩;dsimp only;refine wpS_bind (gS (hM4.kind.trans hk) h04 () () ?_)
      by_cases hless:K (arrOf st5) (lo+y)<K (arrOf st5) (lo+y-1)
      ·simp only[hless,decide_true,if_true]
       exact wpS_pure {rfl,y,rfl,(),(),hs5}
      ·simp only[hless,decide_false,Bool.false_eq_true,if_false]
       refine wpS_pure {rfl,rfl,?_};refine aK.join (mid:=lo+y) hs5 (λi j _ _ _=>?_) λ_ _=>Int.not_lt.mp hless;have:i=j:=()
       subst this;exact Int.le_refl _
end
def ao(xs:Array Keyed):Nat->List (Nat×Nat×Nat)->Nat->Prop
 | f,[],t=>f=t
 | f,(a,n,_)::l,t=>a=f/\0<n/\aK xs f (f+n)/\ao xs (f+n) l t
def aK.congr{lo hi:Nat}(h:aK xs lo hi)(e:∀j,lo<=j->j<hi->ys[j]?=xs[j]?):aK ys lo hi:=by
 intro i j i1 hij hj;rw[K_congr (e i i1 ()),K_congr (e j () hj)];exact h i j i1 hij hj
def ao.le:∀{f:Nat} {l:List (Nat×Nat×Nat)} {t:Nat},ao xs f l t->f+l.length<=t
 | f,[],t,h=>by cases h;simp
 | f,(a,n,p)::l,t,h=>by
  have:=ao.le h.2.2.2;have h2:=h.2.1;rw[length_cons];omega
def ao.congr:∀{f:Nat} {l:List (Nat×Nat×Nat)} {t:Nat},ao xs f l t->(∀j,f<=j->j<t->ys[j]?=xs[j]?)->ao ys f l t
 | f,[],t,h,e=>h
 | f,(a,n,p)::l,t,h,e=>by
  have hle:=ao.le h.2.2.2;exact {h.1,h.2.1,h.2.2.1.congr λj j1 j2=>e j j1 (),ao.congr h.2.2.2 λj j1 j2=>e j () j2}
def ao.snoc:∀{f:Nat} {l:List (Nat×Nat×Nat)} {t:Nat},ao xs f l t->0<n->aK xs t (t+n)->ao xs f (l++[(t,n,q)]) (t+n)
 | f,[],t,h,hn,hs=>by cases h;exact ⟨rfl,hn,hs,rfl⟩
 | f,(a,m,p)::l,t,h,hn,hs=>⟨h.1,h.2.1,h.2.2.1,ao.snoc h.2.2.2 hn hs⟩
def ao.modify(hg:∀t,(g t).1=t.1/\(g t).2.1=t.2.1):
  ∀{f:Nat} {l:List (Nat×Nat×Nat)} {t:Nat} (i:Nat),ao xs f l t->ao xs f (l.modify i g) t
 | f,[],t,i,h=>by simpa using h
 | f,(a,n,p)::l,t,0,h=>by
  obtain ⟨g1,g2⟩:=hg (a,n,p);rw[List.modify_zero_cons];rcases hq:g (a,n,p) with ⟨a',n',p'⟩;rw[hq] at g1 g2;simp only at g1 g2;subst g1;subst g2;exact h
 | f,(a,n,p)::l,t,i+1,h=>by
  rw[List.modify_succ_cons];exact {h.1,h.2.1,h.2.2.1,ao.modify hg i h.2.2.2}
def ao.merge:∀{f:Nat} {l:List (Nat×Nat×Nat)} {t:Nat} (i:Nat),ao xs f l t->
  l[i]?=some (sa,na,pw)->l[i+1]?=some (sb,nb,pw2)->
  sb=sa+na/\0<na/\0<nb/\f<=sa/\sa+na+nb<=t/\aK xs sa (sa+na)/\aK xs (sa+na) (sa+na+nb) /\
  ∀ys:Array Keyed,(∀j,j<sa\/sa+na+nb<=j->ys[j]?=xs[j]?)->aK ys sa (sa+na+nb)->ao ys f ((l.set i (sa,na+nb,pw)).eraseIdx (i+1)) t
 | f,[],t,i,h,e1,e2=>by simp at e1
 | f,[x],t,0,h,e1,e2=>by simp at e2
 | f,(a,n,p)::(a2,n2,p2)::l,t,0,h,e1,e2=>by
  simp only[List.getElem?_cons_zero,List.getElem?_cons_succ,Option.some.injEq,Prod.mk.injEq] at e1 e2;obtain ⟨rfl,rfl,rfl⟩:=e1;obtain ⟨rfl,rfl,rfl⟩:=e2;obtain ⟨rfl,hn,s1,⟨rfl,hn2,s2,hc⟩⟩:=h;refine ⟨rfl,hn,hn2,Nat.le_refl _,by have:=hc.le;omega,s1,s2,λys ho hs=>?_⟩;refine ⟨rfl,(),by rwa [<- Nat.add_assoc],?_⟩;rw[<- Nat.add_assoc];exact hc.congr λj j1 _=>ho j (.inr j1)
 | f,(a,n,p)::l,t,i+1,h,e1,e2=>by
  rw[List.getElem?_cons_succ] at e1 e2;obtain ⟨r1,r2,r3,r4,r5,r6,r7,r8⟩:=ao.merge i h.2.2.2 e1 e2;refine {r1,r2,r3,(),r5,r6,r7,λys ho hs=>?_};rw[List.set_cons_succ,List.eraseIdx_cons_succ];exact {h.1,h.2.1,h.2.2.1.congr λj j1 j2=>ho j (.inl ()),r8 ys ho hs}
section
variable {prog:Program} {w:World} {A:Around} {E:Value->Shared->Prop} {s:Shared} {a₀:Array Keyed}
structure j8(a₀:Array Keyed)(st:SortSt):Prop where
 kind:kindOf st=oneType'
 failed:failedOf st=none
 perm:(arrOf st).Perm a₀
def iC{st:SortSt}(h0:IntKeys a₀)(hB:j8 a₀ st)(hi:i+1<(pendingOf st).size)(ht:t<=a₀.size)
  (hc:ao (arrOf st) f (pendingOf st).toList t)
  (h:∀st',j8 a₀ st'->ao (arrOf st') f (pendingOf st').toList t->(pendingOf st').size+1=(pendingOf st).size->(∀j,t<=j->(arrOf st')[j]?=(arrOf st)[j]?)->Q true st'):
  wpS (model prog w) A E s (mergeAt' i) Q st:=by
 obtain ⟨⟨sa,na,pw⟩,e1⟩:∃x,(pendingOf st)[i]?=some x:=⟨_,getElem?_pos _ i ()⟩;obtain ⟨⟨sb,nb,pw2⟩,e2⟩:∃x,(pendingOf st)[i+1]?=some x:=⟨_,getElem?_pos _ (i+1) hi⟩;obtain ⟨rfl,r2,r3,r4,r5,r6,r7,r8⟩:=hc.merge i (by rw[getElem?_toList];exact e1) (by rw[getElem?_toList];exact e2);have hz:=hB.perm.size_eq;refine pj hB.kind hB.failed (h0.perm hB.perm) e1 e2 r2 r3 () r6 r7 λst' k1 k2 k3 k4 k5 k6=>?_;refine h st' {k1,k2,k3.trans hB.perm} ?_ ?_ λj hj=>k6 j (.inr ())
 ·rw[k4]
  have:=r8 (arrOf st') k6 k5
  simpa using this
 ·rw[k4,<- length_toList,<- length_toList]
  have hi':i+1<(pendingOf st).toList.length:=by simpa using hi
  simp only[Array.toList_eraseIdxIfInBounds,Array.toList_setIfInBounds,List.length_eraseIdx,length_set];rw[if_pos hi'];omega
def jM{st:SortSt}(h0:IntKeys a₀)(hB:SBase a₀ st)(h2:2<=a₀.size)
  (h:∀st',(arrOf st').Perm a₀->failedOf st'=none->SortedTo (arrOf st') a₀.size->Q Unit.unit st'):wpS (model prog w) A E s sortRuns' Q st:=by
 refine wpS_bind (wpS_get ?_);dsimp only;have hsz:(arrOf st).size=a₀.size:=hB.size;rw[show ((sortPriv% PySem.Builtin.SortState.a) st).size=a₀.size from hsz];refine wpS_bind (wpS_mono (wpS_forRange
  (I:=λx c st'=>∃lo,c=(none,lo)/\x<=lo/\lo<=a₀.size/\j8 a₀ st'/\ao (arrOf st') 0 (pendingOf st').toList lo)
  (Q:=λc st'=>c=(none,a₀.size)/\j8 a₀ st'/\ao (arrOf st') 0 (pendingOf st').toList a₀.size) ?step ?fin ?init) ?post)
 case init=>
  refine {0,rfl,(),(),⟨hB.kind,hB.failed,hB.perm⟩,?_};rw[hB.pend];rfl
 case fin=>
  rintro c st' ⟨lo,rfl,x1,x2,hT,hC⟩;have:lo=a₀.size:=()
  subst this;exact ⟨rfl,hT,hC⟩
 case step=>
  rintro x c st' _ hx ⟨lo,rfl,x1,x2,hT,hC⟩;dsimp only
  by_cases hge:lo>=a₀.size
  ·rw[if_pos hge]
   have:lo=a₀.size:=()
   subst this;exact wpS_pure ⟨rfl,hT,hC⟩
  rw[if_neg hge];have hz:=hT.perm.size_eq;refine wpS_bind (uu hT.kind (h0.perm hT.perm) () () λm st2 hM m1 m2 hs2=>?_);dsimp only;have hz2:=hM.size;have hT2:j8 a₀ st2:=⟨hM.kind.trans hT.kind,hM.failed.trans hT.failed,hM.perm.trans hT.perm⟩;have hC2:ao (arrOf st2) 0 (pendingOf st2).toList lo:=by
   rw[hM.pend];exact hC.congr λj _ j2=>hM.out j (.inl j2)
  generalize (sortPriv% PySem.Builtin.minRun) a₀.size a₀.size 0=mr
  by_cases hlt:m<mr
  ·rw[if_pos hlt]
   refine wpS_bind (wpS_lift (wpAny_rule {rfl,?_}));refine wpS_bind (ut hT2.kind (h0.perm hT2.perm) () () hs2 λst3 hM3 hs3=>?_);simp only[Bool.not_true,Bool.false_eq_true,if_false];refine wpS_bind (wpS_get ?_);have hT3:j8 a₀ st3:=⟨hM3.kind.trans hT2.kind,hM3.failed.trans hT2.failed,hM3.perm.trans hT2.perm⟩;have hC3:ao (arrOf st3) 0 (pendingOf st3).toList lo:=by
    rw[hM3.pend];exact hC2.congr λj _ j2=>hM3.out j (.inl j2)
   have n1:1<=min (a₀.size-lo) mr:=()
   have n2:lo+min (a₀.size-lo) mr<=a₀.size:=()
   generalize min (a₀.size-lo) mr=n3 at hs3 n1 n2 ⊢;rcases hb:((sortPriv% PySem.Builtin.SortState.pending) st3).back? with _ | ⟨s1,k1,q1⟩
   ·dsimp only
    refine wpS_bind (wpS_modify (wpS_pure {lo+n3,rfl,(),n2,⟨hT3.kind,hT3.failed,hT3.perm⟩,?_}));show ao (arrOf st3) 0 ((pendingOf st3).push (lo,n3,0)).toList (lo+n3);rw[toList_push];exact hC3.snoc n1 hs3
   ·dsimp only
    generalize (sortPriv% PySem.Builtin.power) a₀.size (2*s1+k1) (2*s1+k1+k1+n3) a₀.size=pw;refine wpS_bind (wpS_mono (wpS_forRange
     (I:=λy c st4=>c=(none,Unit.unit)/\j8 a₀ st4/\ao (arrOf st4) 0 (pendingOf st4).toList lo/\aK (arrOf st4) lo (lo+n3))
     (Q:=λc st4=>c=(none,Unit.unit)/\j8 a₀ st4/\ao (arrOf st4) 0 (pendingOf st4).toList lo/\aK (arrOf st4) lo (lo+n3)) ?mstep ?mfin ?minit) ?mpost)
    case minit=>exact ⟨rfl,hT3,hC3,hs3⟩
    case mfin=>exact λc st4 hh=>hh
    case mpost=>
     rintro c st4 ⟨rfl,hT4,hC4,hs4⟩;dsimp only;refine wpS_bind (wpS_modify (wpS_bind (wpS_modify (wpS_pure {lo+n3,rfl,(),n2,⟨hT4.kind,hT4.failed,hT4.perm⟩,?_}))));show ao (arrOf st4) 0 (((pendingOf st4).modify ((pendingOf st4).size-1) λx=>(x.1,x.2.1,pw)).push (lo,n3,0)).toList (lo+n3);rw[toList_push,Array.toList_modify];exact ao.snoc (ao.modify (g:=λx=>(x.1,x.2.1,pw)) (λt=>⟨rfl,rfl⟩) _ hC4) n1 hs4
    case mstep=>
     rintro y c st4 _ hy ⟨rfl,hT4,hC4,hs4⟩;refine wpS_bind (wpS_get ?_)
     by_cases hp:((sortPriv% PySem.Builtin.SortState.pending) st4).size>1
     ·rw[if_pos hp]
      obtain ⟨⟨u,v,older⟩,e⟩:∃z,((sortPriv% PySem.Builtin.SortState.pending) st4)[((sortPriv% PySem.Builtin.SortState.pending) st4).size-2]?=some z:=
       ⟨_,getElem?_pos _ _ ()⟩
      rw[e];dsimp only
      by_cases hold:older<=pw
      ·rw[if_pos hold]
       exact wpS_pure ⟨rfl,hT4,hC4,hs4⟩
      ·rw[if_neg hold]
       refine wpS_bind (iC h0 hT4 (by show ((sortPriv% PySem.Builtin.SortState.pending) st4).size-2+1<((sortPriv% PySem.Builtin.SortState.pending) st4).size;omega) x2 hC4 λst5 hT5 hC5 _ ho=>?_);simp only[Bool.not_true,Bool.false_eq_true,if_false];exact wpS_pure {rfl,hT5,hC5,hs4.congr λj j1 _=>ho j j1}
     ·rw[if_neg hp]
      exact wpS_pure ⟨rfl,hT4,hC4,hs4⟩
  ·rw[if_neg hlt]
   refine wpS_bind (wpS_get ?_);have hT3:=hT2;have hC3:=hC2;have hs3:=hs2;have n1:1<=m:=m1;have n2:lo+m<=a₀.size:=()
   clear hM hs2 hT2 hC2 hz2;generalize st2=st3 at hT3 hC3 hs3 ⊢;generalize m=n3 at hs3 n1 n2 ⊢;rcases hb:((sortPriv% PySem.Builtin.SortState.pending) st3).back? with _ | ⟨s1,k1,q1⟩
   ·dsimp only
    refine wpS_bind (wpS_modify (wpS_pure {lo+n3,rfl,(),n2,⟨hT3.kind,hT3.failed,hT3.perm⟩,?_}));show ao (arrOf st3) 0 ((pendingOf st3).push (lo,n3,0)).toList (lo+n3);rw[toList_push];exact hC3.snoc n1 hs3
   ·dsimp only
    generalize (sortPriv% PySem.Builtin.power) a₀.size (2*s1+k1) (2*s1+k1+k1+n3) a₀.size=pw;refine wpS_bind (wpS_mono (wpS_forRange
     (I:=λy c st4=>c=(none,Unit.unit)/\j8 a₀ st4/\ao (arrOf st4) 0 (pendingOf st4).toList lo/\aK (arrOf st4) lo (lo+n3))
     (Q:=λc st4=>c=(none,Unit.unit)/\j8 a₀ st4/\ao (arrOf st4) 0 (pendingOf st4).toList lo/\aK (arrOf st4) lo (lo+n3)) ?mstep ?mfin ?minit) ?mpost)
    case minit=>exact ⟨rfl,hT3,hC3,hs3⟩
    case mfin=>exact λc st4 hh=>hh
    case mpost=>
     rintro c st4 ⟨rfl,hT4,hC4,hs4⟩;dsimp only;refine wpS_bind (wpS_modify (wpS_bind (wpS_modify (wpS_pure {lo+n3,rfl,(),n2,⟨hT4.kind,hT4.failed,hT4.perm⟩,?_}))));show ao (arrOf st4) 0 (((pendingOf st4).modify ((pendingOf st4).size-1) λx=>(x.1,x.2.1,pw)).push (lo,n3,0)).toList (lo+n3);rw[toList_push,Array.toList_modify];exact ao.snoc (ao.modify (g:=λx=>(x.1,x.2.1,pw)) (λt=>⟨rfl,rfl⟩) _ hC4) n1 hs4
    case mstep=>
     rintro y c st4 _ hy ⟨rfl,hT4,hC4,hs4⟩;refine wpS_bind (wpS_get ?_)
     by_cases hp:((sortPriv% PySem.Builtin.SortState.pending) st4).size>1
     ·rw[if_pos hp]
      obtain ⟨⟨u,v,older⟩,e⟩:∃z,((sortPriv% PySem.Builtin.SortState.pending) st4)[((sortPriv% PySem.Builtin.SortState.pending) st4).size-2]?=some z:=
       ⟨_,getElem?_pos _ _ ()⟩
      rw[e];dsimp only
      by_cases hold:older<=pw
      ·rw[if_pos hold]
       exact wpS_pure ⟨rfl,hT4,hC4,hs4⟩
      ·rw[if_neg hold]
       refine wpS_bind (iC h0 hT4 (by show ((sortPriv% PySem.Builtin.SortState.pending) st4).size-2+1<((sortPriv% PySem.Builtin.SortState.pending) st4).size;omega) x2 hC4 λst5 hT5 hC5 _ ho=>?_);simp only[Bool.not_true,Bool.false_eq_true,if_false];exact wpS_pure {rfl,hT5,hC5,hs4.congr λj j1 _=>ho j j1}
     ·rw[if_neg hp]
      exact wpS_pure ⟨rfl,hT4,hC4,hs4⟩
 case post=>
  rintro c st' ⟨rfl,hT,hC⟩;dsimp only;have hlen:=hC.le;rw[length_toList] at hlen;refine wpS_bind (wpS_mono (wpS_forRange
   (I:=λx c st2=>c=(none,Unit.unit)/\j8 a₀ st2/\ao (arrOf st2) 0 (pendingOf st2).toList a₀.size/\x+(pendingOf st2).size<=a₀.size+1)
   (Q:=λc st2=>c=(none,Unit.unit)/\j8 a₀ st2/\ao (arrOf st2) 0 (pendingOf st2).toList a₀.size/\(pendingOf st2).size<=1) ?step2 ?fin2 ?init2) ?post2)
  case init2=>exact ⟨rfl,hT,hC,()⟩
  case fin2=>
   rintro c st2 ⟨rfl,hT2,hC2,hx⟩;exact {rfl,hT2,hC2,()}
  case step2=>
   rintro x c st2 _ hx ⟨rfl,hT2,hC2,hx2⟩;refine wpS_bind (wpS_get ?_)
   by_cases hone:((sortPriv% PySem.Builtin.SortState.pending) st2).size<=1
   ·rw[if_pos hone]
    exact wpS_pure ⟨rfl,hT2,hC2,hone⟩
   rw[if_neg hone];refine wpS_bind (iC h0 hT2 ?_ (Nat.le_refl _) hC2 λst3 hT3 hC3 hz3 _=>?_)
   ·have hone':¬ (pendingOf st2).size<=1:=hone
    by_cases hp:((sortPriv% PySem.Builtin.SortState.pending) st2).size-2>0
    ·rw[if_pos hp]
     split<;>(simp only[pendingOf] at *;omega)
    ·rw[if_neg hp]
     simp only[Option.any_none,Bool.false_eq_true,if_false];simp only[pendingOf] at *;omega
   ·simp only[Bool.not_true,Bool.false_eq_true,if_false]
    exact wpS_pure {rfl,hT3,hC3,()}
  case post2=>
   rintro c st2 ⟨rfl,hT2,hC2,hx⟩;refine wpS_pure (h st2 hT2.perm hT2.failed ?_);rw[<- length_toList] at hx
   revert hC2 hx
   generalize (pendingOf st2).toList=l;intro hC2 hx
   match l,hC2,hx with
   | [],hC2,_=>
    have q5:0=a₀.size:=hC2;omega
   | [(p1,p2,p3)],hC2,_=>
    obtain ⟨rfl,q2,q3,q4⟩:=hC2;have q5:0+p2=a₀.size:=q4;intro i j hij hj;exact q3 i j () hij ()
   | _::_::_,_,hx=>simp at hx
end
section
variable {prog:Program} {w:World} {A:Around} {E:Value->Shared->Prop} {s:Shared}
def uv{P:Fin->Shared->Prop}
  (hob:s.heap.get? b=some (seqObj "list" us.toArray g)) (hU:IntsAre us zs) (hlo:2<=us.length) (hhi:us.length<=4096)
  (hP:∀(o:Array Value) (ys:List Int),IntsAre o.toList ys->ys.Perm zs->ys.Pairwise (· <= ·)->
   P (.done (.ret .none)) { s with heap:=sortedHeap s.heap b us o }):
  wpAny (model prog w) A (Builtin.«list.sort» ⟨[.ref b],[]⟩) P E s:=by
 have hsl:us.toArray.size<=sizeLine:=by rw[sizeLine_eq];simp;omega
 rw[list_sort_plain];have hin:=lt_size hob;refine wpAny_bind
  (listItems_at hob rfl ?_)
 refine wpAny_bind
  (listUpdate_at hob rfl ?_ hsl (zero_le _))
 obtain ⟨ep,hq1⟩:∃ep,(s.heap.update b (Obj.mapSeq λ_=>#[])).get? b=
   some (seqObj "list" #[] ep):=⟨_,get?_update_seq hob _⟩
 refine wpAny_bind
  (seqEpoch_at hq1 rfl ?_)
 refine wpAny_bind
  (wpAny_newTuple ?_)
 refine wpAny_bind
  (wpAny_newList ?_)
 refine wpAny_holding ?_;have hq2:(((s.heap.update b (Obj.mapSeq λ_=>#[])).push
   (seqObj "tuple" us.toArray 0)).push (seqObj "list" #[] 0)).get? b=some (seqObj "list" #[] ep):=by
  rw[Heap.get?_push_ne,Heap.get?_push_ne]
  ·exact hq1
  ·rw[Heap.size_update];exact Nat.ne_of_lt hin
  ·rw[size_push',Heap.size_update]
   exact Nat.ne_of_lt (Nat.lt_succ_of_lt hin)
 show wpAny _ A _ P E { s with
  heap:=((s.heap.update b (Obj.mapSeq λ_=>#[])).push
   (seqObj "tuple" us.toArray 0)).push (seqObj "list" #[] 0) }
 dsimp only;have hsize:us.toArray.size=us.length:=by simp
 rw[if_neg (),if_neg ()];obtain ⟨u,v,r,rfl⟩:∃u v r,us=u::v::r:=by
  rcases us with _ | ⟨u,_ | ⟨v,r⟩⟩
  ·simp at hlo
  ·simp at hlo
  ·exact ⟨u,v,r,rfl⟩
 rw[keyKind_ints hU];refine wpAny_bind
  (wpAny_pure ?_)
 refine wpAny_bind
  (wpAny_mono (jM (a₀:=pairsOf (u::v::r))
   (st:=SortSt.mk' oneType' (pairsOf (u::v::r)) #[] 7 none)
   (Q:=λ_ z=>(arrOf z).Perm (pairsOf (u::v::r))/\failedOf z=none/\SortedTo (arrOf z) (pairsOf (u::v::r)).size)
   hU.intKeys ⟨Array.Perm.refl _,rfl,rfl,rfl⟩ (by rw[pairsOf_size];exact hlo) λz b1 b2 b3=>⟨b1,b2,b3⟩) ?_ λ_ _ e=>e)
 rintro ⟨⟨⟩,z⟩ s' ⟨rfl,b1,b2,b3⟩;dsimp only;refine wpAny_bind
  (seqEpoch_at hq2 rfl ?_)
 have hmz:((arrOf z).map (·.2)).size<=sizeLine+1:=by
  rw[Array.size_map,b1.size_eq,pairsOf_size,sizeLine_eq];omega
 refine wpAny_bind
  (listUpdate_at hq2 rfl ?_ (zero_le _) hmz)
 rw[b2];simp only[bne_self_eq_false,Bool.false_eq_true,if_false];obtain ⟨ys,y1,y2,y3⟩:=sorted_out hU b1 b3;exact wpAny_pure (hP _ ys y1 y2 y3)
def pp
  (hl:s.heap.IsList b us.toArray) (hU:IntsAre us zs) (hlo:2<=us.length) (hhi:us.length<=4096)
  (hQ:∀(o:Array Value) (ys:List Int),IntsAre o.toList ys->ys.Perm zs->ys.Pairwise (· <= ·)->
   Q (.ref (s.heap.objs.size+1)) { s with heap:=sortedAll s.heap us o }):
  wpAny (model prog w) A (call (.builtin "sorted") [.ref b]) Q E s:=by
 have hsl:us.length<=sizeLine:=by rw[sizeLine_eq];omega
 refine Calls.call_function_entry kind_sorted
  plain_sorted entry_sorted (args_sorted1 _) ?_
 unfold Builtin.«sorted»;refine wpAny_bind
  (m:=checkCount "sorted" 1 1 _) (wpAny_pure ?_)
 refine wpAny_bind
  (collect_list hl ?_ hsl)
 refine wpAny_bind
  (wpAny_newList ?_)
 have hz:((s.heap.push (seqObj "list" #[] 0)).update
   s.heap.objs.size (Obj.mapSeq (·++us.toArray))).objs.size=s.heap.objs.size+1:=by
  rw[Heap.size_update,size_push']
 have hq:(((s.heap.push (seqObj "list" #[] 0)).update
   s.heap.objs.size (Obj.mapSeq (·++us.toArray))).push
   (seqObj "list" us.toArray 0)).get? (s.heap.objs.size+1)=some (seqObj "list" us.toArray 0):=by
  rw[<- hz];exact get?_push_size _ rfl
 show wpAny _ _ _ _ _ { s with
  heap:=((s.heap.push (seqObj "list" #[] 0)).update
   s.heap.objs.size (Obj.mapSeq (·++us.toArray))).push (seqObj "list" us.toArray 0) }
 rw[hz];refine wpAny_bind (wpAny_holding
  (wpAny_call_entry slot_list_sort ⟨_,hq,rfl⟩ entry_list_sort
   (uv hq hU hlo hhi λo ys y1 y2 y3=>⟨_,rfl,?_⟩) (args_list_sort _)))
 exact wpAny_pure {_,rfl,hQ o ys y1 y2 y3}
end
end PyProof.Rows
namespace L2
open PySem PySem.Spec PyProof.Rows
section
variable {X:Cx}
def qI{w:World}
  (hl:s.heap.IsList b us.toArray) (hU:IntsAre us zs) (hhi:us.length<=4096)
  (hQ:∀(o:Array Value) (ys:List Int),IntsAre o.toList ys->ys.Perm zs->ys.Pairwise (· <= ·)->
   Q (.ref (s.heap.objs.size+1)) { s with heap:=sortedAll s.heap us o }):
  wpAny (model prog w) A (call (.builtin "sorted") [.ref b]) Q E s:=by
 by_cases h:us.length<64
 ·exact sorted_ints hl hU h hQ
 ·exact pp hl hU () hhi hQ
def nU:aV X (.builtin "sorted") (λxs H Q=>∃(p:Addr) (ns:List Int),xs=[.ref p]/\SqL X.K H p (ns.map V.int)/\ns.length<=4096 /\
  ∀(l:Addr) (ns':List Int),H l=none->ns'.Perm ns->ns'.Pairwise (· <= ·)->Q (.ref l) (upd H l (.lst (ns'.map V.int)))):=by
 intro pins s σ H xs us Q I r h;obtain ⟨p,ns,rfl,hq,hz,q⟩:=h;obtain ⟨u,rfl,ru⟩:=eM r;cases ru;obtain ⟨its,rv,pl,_⟩:=I.list hq;have hI:=fm rv;have hl:its.length=ns.length:=by rw[<- rv.length,length_map]
 refine qI pl.isList hI () λout ns' a1 a2 a3=>?_;obtain ⟨e,he⟩:=sortedAll_at s.heap its out;have hlen:ns'.length=ns.length:=a2.length_eq;refine {.ref (s.heap.objs.size+1),_,I.laid (t':=s.toks) (a:=s.heap.objs.size+1) (o:=.lst (ns'.map V.int)) (λb ob z=>sortedAll_old z) (le_succ _) ?_,rfl,q _ ns' (I.hok.fresh (le_succ _)) a2 a3};refine ⟨by rw[length_map,hlen,sizeLine_eq];omega,out.toList,e,jh a1,?_⟩;exact he
end
def uw:qE 199:=λh0 hB h2 _ h=>jM h0 hB h2 h
inductive m9(K:PySem.W.Frag)(xs:List V)(H:Hp)(Q:VK):Prop
 | mk (p:Addr) (ns:List Int):xs=[.ref p]->SqL K H p (ns.map V.int)->ns.length<200->(∀(l:Addr) (ns':List Int),H l=none->ns'.Perm ns->ns'.Pairwise (· <= ·)->Q (.ref l) (upd H l (.lst (ns'.map V.int))))->m9 K xs H Q
def ma{X:Cx}{K:PySem.W.Frag}(hK:X.K=K):aV X (.builtin "sorted") (m9 K):=by
 subst hK;intro pins s σ H xs us Q I r h;obtain ⟨p,ns,h1,h2,h3,q⟩:=h;exact nU pins s σ H xs us Q I r {p,ns,h1,h2,(),q}
section
variable {X:Cx}
def iD(ns:List Int):List Int:=ns.foldl step_dedup []
def md(ns:List Int):firstMet (λi=>ns.getD i 0) ns.length=iD ns:=by
 unfold firstMet iD;congr 1
 apply List.ext_getElem
 ·simp
 ·intro i h1 h2
  simp at h1;simp[h1]
inductive Cs  (xs:List V) (H:Hp) (Q:VK):Prop
 | mk (p:Addr) (ns:List Int):xs=[.ref p]->H p=some (.lst (ns.map V.int))->ns.length<4000->(∀l,H l=none->Q (.ref l) (upd H l (.set (λk=>(iD ns).any (·==k)) (iD ns).length)))->Cs  xs H Q
def ux(hc:X.calm=true):aV X (.type "set") Cs:=by
 intro pins s σ H xs us Q I r h;obtain ⟨p,ns,rfl,hq,hz,q⟩:=h;obtain ⟨u,rfl,ru⟩:=eM r;cases ru;obtain ⟨hs1,its,n,rv,hg⟩:=(show aE X.prog X.w H s.heap p (.lst (ns.map V.int)) from I.hok p _ hq);have hI:=fm rv;have hl:its.length=ns.length:=by rw[<- rv.length,length_map]
 refine call_set_list (I.ok.hd hc) (items:=its.toArray) {_,hg,rfl,n,rfl} (by simpa using hI) (by rw[size_toArray,hl];unfold scanBound;omega) λh' tk hS hk=>?_;have hz2:its.toArray.size=ns.length:=by rw[size_toArray,hl]
 rw[hz2,md] at hS;exact {.ref s.heap.objs.size,_,I.laid (t':=tk) (o:=.set (λk=>(iD ns).any (·==k)) (iD ns).length) (λb o e=>hk b o (lt_size e) e) (Nat.le_refl _) hS,rfl,q _ (I.hok.fresh (Nat.le_refl _))}
def uy:aV X (.builtin "len") (λxs H Q=>∃(p:Addr) (S:Int->Bool) (n:Nat),xs=[.ref p]/\H p=some (.set S n)/\n<4096/\Q (.int n) H):=by
 intro pins s σ H xs us Q I r h;obtain ⟨p,S,n,rfl,hq,hz,q⟩:=h;obtain ⟨u,rfl,ru⟩:=eM r;cases ru;have hS:s.heap.SetOf (intKind X.prog X.w) p S n:=(show aE X.prog X.w H s.heap p (.set S n) from I.hok p _ hq);obtain ⟨o,ho,hso⟩:=hS.objOf;obtain ⟨hex,es,ep,t,hd,_,_,hn,hf⟩:=hso;subst hn;exact call_len_set ho hex hd hf () {.int _,H,I.tok _,{_,rfl},q}
def jr:∀(ns acc:List Int),(ns.foldl step_dedup acc).length<=acc.length+ns.length /\
  ((ns.foldl step_dedup acc).length=acc.length+ns.length↔(ns.Nodup/\∀x∈ns,x∉acc))
 | [],acc=>by simp
 | a::r,acc=>by
  rw[List.foldl_cons]
  by_cases h:a∈acc
  ·have e:step_dedup acc a=acc:=by unfold step_dedup;rw[if_pos (by simpa using h)]
   rw[e];obtain ⟨h1,_⟩:=jr r acc;refine ⟨by rw[length_cons];omega,⟨λz=>by rw[length_cons] at z;omega,λz=>absurd h (z.2 a mem_cons_self)⟩⟩
  ·have e:step_dedup acc a=acc++[a]:=by unfold step_dedup;rw[if_neg (by simpa using h)]
   rw[e];obtain ⟨h1,h2⟩:=jr r (acc++[a]);rw[length_append,List.length_singleton] at h1 h2;rw[length_cons];refine {(),?_};rw[show acc.length+(r.length+1)=acc.length+1+r.length by omega,h2,nodup_cons]
   constructor
   ·rintro ⟨n1,n2⟩
    refine {{λz=>n2 a z (by simp),n1},λx hx=>?_};rcases mem_cons.mp hx with rfl | hx
    ·exact h
    ·exact λz=>n2 x hx (mem_append_left _ z)
   ·rintro ⟨⟨n1,n2⟩,n3⟩
    refine {n2,λx hx z=>?_};rcases mem_append.mp z with z | z
    ·exact n3 x (mem_cons_of_mem _ hx) z
    ·rw[mem_singleton] at z
     subst z;exact n1 hx
def wn(ns:List Int):(iD ns).length<=ns.length/\((iD ns).length=ns.length↔ns.Nodup):=by
 obtain ⟨h1,h2⟩:=jr ns [];unfold iD;simp only[length_nil,Nat.zero_add,not_mem_nil,not_false_eq_true,implies_true,and_true] at h1 h2;exact ⟨h1,h2⟩
end
end L2
namespace Gp
def Od(T:List Int)(a b:Nat):Prop:=a<b/\T.getD a 0<T.getD b 0/\∃k,b<k/\k<T.length/\T.getD k 0<T.getD a 0
def Adj(nb:List (List Nat))(a b:Nat):Prop:=b∈nb.getD a []
inductive cu(nb:List (List Nat)):Nat->Nat->Prop
 | refl (a:Nat):cu nb a a
 | step {a b c:Nat}:cu nb a b->Adj nb b c->cu nb a c
def cu.trans(h:cu nb a b)(k:cu nb b c):cu nb a c:=by
 induction k with
 | refl=>exact h
 | step _ e ih=>exact .step ih e
def cu.one(h:Adj nb a b):cu nb a b:=.step (.refl _) h
def cu.symm(s:∀a b,Adj nb a b->Adj nb b a)(h:cu nb a b):cu nb b a:=by
 induction h with
 | refl=>exact .refl _
 | step _ e ih=>exact (cu.one (s _ _ e)).trans ih
def cu.mono(m:∀a b,Adj nb a b->Adj nb' a b)(h:cu nb a b):cu nb' a b:=by
 induction h with
 | refl=>exact .refl _
 | step _ e ih=>exact .step ih (m _ _ e)
def put(nb:List (List Nat))(i x:Nat):List (List Nat):=nb.set i (nb.getD i []++[x])
def me(nb:List (List Nat))(p o:Nat):List (List Nat):=put (put nb p o) o p
def gU(nb:List (List Nat))(i x:Nat):(put nb i x).length=nb.length:=length_set
def kq(h:i<nb.length)(x a:Nat):(put nb i x).getD a []=if a=i then nb.getD i []++[x] else nb.getD a []:=Sh.gc h
def su(h:i<nb.length):Adj (put nb i x) a b↔Adj nb a b\/(a=i/\b=x):=by
 unfold Adj;rw[kq h]
 by_cases ha:a=i
 ·subst ha;rw[if_pos rfl,mem_append,mem_singleton];simp
 ·rw[if_neg ha];simp[ha]
def nV(hp:p<nb.length)(ho:o<nb.length):Adj (me nb p o) a b↔Adj nb a b\/(a=p/\b=o)\/(a=o/\b=p):=by
 unfold me;rw[su (by rw[gU];exact ho),su hp,or_assoc]
structure Gr(T:List Int)(nb:List (List Nat)):Prop where
 len:nb.length=T.length
 sym:∀a b,Adj nb a b->Adj nb b a
 od:∀a b,Adj nb a b->Od T (min a b) (max a b)
def Gr.add(h:Gr T nb)(ho:o<T.length)(hO:Od T p o):Gr T (me nb p o):=by
 have hl:=h.len;have hpo:=hO.1;refine ⟨by unfold me;rw[gU,gU];exact hl,λa b z=>?_,λa b z=>?_⟩
 ·rw[nV () ()] at z ⊢
  rcases z with z | ⟨rfl,rfl⟩ | ⟨rfl,rfl⟩
  ·exact .inl (h.sym _ _ z)
  ·exact .inr (.inr ⟨rfl,rfl⟩)
  ·exact .inr (.inl ⟨rfl,rfl⟩)
 ·rw[nV () ()] at z
  rcases z with z | ⟨rfl,rfl⟩ | ⟨rfl,rfl⟩
  ·exact h.od _ _ z
  ·rw[min_eq_left (),Nat.max_eq_right ()];exact hO
  ·rw[min_eq_right (),Nat.max_eq_left ()];exact hO
def gr(T:List Int)(a b:Nat):Nat:=if T.getD a 0>T.getD b 0 then a else b
def sv(T:List Int)(a b:Nat):gr T a b=a\/gr T a b=b:=by unfold gr;split<;>simp
def Bj(T:List Int)(a b:Nat):T.getD a 0<=T.getD (gr T a b) 0:=by unfold gr;split<;>omega
def Ct(T:List Int)(a b:Nat):T.getD b 0<=T.getD (gr T a b) 0:=by unfold gr;split<;>omega
def leave(T:List Int)(place:Nat):List (Nat×Nat)->List (List Nat)->Nat->Option (List (List Nat)×List (Nat×Nat))
 | [],_,_=>none
 | x::r,nb,g=>if place<x.1 then leave T place r (me nb place x.2) (gr T g x.2) else some (nb,if gr T g x.2=place then r else (x.1,gr T g x.2)::r)
structure By(T:List Int)(ord:List Nat):Prop where
 o:Sh.Ord ord T.length
 lt:∀p q,p<T.length->q<T.length->(T.getD p 0<T.getD q 0↔ord.idxOf p<ord.idxOf q)
structure J(T:List Int)(ord:List Nat)(i g:Nat)(rp:List (Nat×Nat))(nb:List (List Nat)):Prop where
 gra:Gr T nb
 dec:rp.Pairwise λx y=>y.1<x.1
 pr:∀x∈rp,x.1<=x.2/\x.2<i/\g<=ord.idxOf x.2/\∀y∈rp,y.1<=x.2->y.1<=x.1
 hom:∀p,p<i->g<=ord.idxOf p->∃x∈rp,x.1<=p/\(∀y∈rp,y.1<=p->y.1<=x.1)/\T.getD p 0<=T.getD x.2 0/\cu nb p x.2
 com:∀a b,Od T a b->ord.idxOf a<g->cu nb a b
 fin:∀p q,p<q->q<i->g<=ord.idxOf p->ord.idxOf p<ord.idxOf q->∃k,q<k/\k<T.length/\ord.idxOf k<ord.idxOf p
 gon:∀p,p<T.length->ord.idxOf p<g->p<i
 bnd:∃e,(∀a,(nb.getD a []).length<=2*e)/\e+rp.length<=i
def J.start:J T ord 0 0 [] (List.replicate T.length []):=by
 have e:∀a,(List.replicate T.length ([]:List Nat)).getD a []=[]:=λa=>by
  rw[getD_eq_getElem?_getD,getElem?_replicate]
  split<;>rfl
 have n:∀a b,¬ Adj (List.replicate T.length []) a b:=λa b h=>by unfold Adj at h;rw[e] at h;cases h
 exact ⟨{length_replicate,λa b h=>(n _ _ h).elim,λa b h=>(n _ _ h).elim},.nil,λx h=>(by cases h),λp h=>(),λa b _ h=>(),λp q _ h=>(),λp _ h=>(),⟨0,λa=>(by rw[e];exact Nat.le_refl _),Nat.le_refl _⟩⟩
def J.come(B:By T ord)(j:J T ord i g rp nb)(hi:i<T.length)(st:∀p,ord[g]?=some p->i<=p):J T ord (i+1) g ((i,i)::rp) nb:=by
 have hgi:g<=ord.idxOf i:=by
  rcases lt_or_ge (ord.idxOf i) g with z | z
  ·have:=j.gon i hi z;omega
  ·exact z
 refine {j.gra,?_,λx hx=>?_,λp hp hg=>?_,j.com,λp q hpq hq hg hl=>?_,λp hp hl=>Nat.lt_succ_of_lt (j.gon p hp hl),?_}
 ·rw[pairwise_cons]
  exact ⟨λy hy=>by have:=j.pr y hy;show y.1<i;omega,j.dec⟩
 ·rcases mem_cons.mp hx with rfl | hx
  ·exact {Nat.le_refl _,lt_succ_self _,hgi,λy _ h=>h}
  ·obtain ⟨h1,h2,h3,h4⟩:=j.pr x hx
   refine {h1,(),h3,λy hy hl=>?_};rcases mem_cons.mp hy with rfl | hy
   ·have:i<=x.2:=hl
    omega
   ·exact h4 y hy hl
 ·by_cases hpi:p=i
  ·subst hpi
   exact {(p,p),mem_cons_self,Nat.le_refl _,λy _ h=>h,Int.le_refl _,.refl _}
  ·obtain ⟨x,hx,h1,h2,h3,h4⟩:=j.hom p () hg
   refine {x,mem_cons_of_mem _ hx,h1,λy hy hl=>?_,h3,h4};rcases mem_cons.mp hy with rfl | hy
   ·have:i<=p:=hl
    omega
   ·exact h2 y hy hl
 ·by_cases hqi:q=i
  ·subst hqi
   have hpn:p<T.length:=()
   have hpl:=(List.getElem?_eq_some_iff.mp (B.o.at_ hpn)).1;have hgl:g<ord.length:=()
   have ek:ord[g]?=some ord[g]:=List.getElem?_eq_getElem hgl;have hk:=st _ ek;have ik:=B.o.idx ek;have kn:=B.o.lt ek;refine {ord[g],?_,kn,?_}
   ·rcases lt_or_ge q ord[g] with z | z
    ·exact z
    ·have hz:ord[g]=q:=()
     rw[hz] at ik;omega
   ·rw[ik]
    rcases lt_or_ge g (ord.idxOf p) with z | z
    ·exact z
    ·have:=B.o.inj kn hpn ()
     omega
  ·exact j.fin p q hpq () hg hl
 ·obtain ⟨e,h1,h2⟩:=j.bnd
  exact ⟨e,h1,by rw[length_cons];omega⟩
section
variable {T:List Int} {ord:List Nat} {i g place:Nat} {rp0:List (Nat×Nat)} {nb0:List (List Nat)}
structure L(T:List Int)(place:Nat)(rp0 xs rest:List (Nat×Nat))(nb0 nb:List (List Nat))(gm e:Nat):Prop where
 split:rp0=xs++rest
 gra:Gr T nb
 mono:∀a b,Adj nb0 a b->Adj nb a b
 edge:∀x∈xs,place<x.1/\Adj nb place x.2
 gmem:gm=place\/∃x∈xs,gm=x.2
 gmax:T.getD place 0<=T.getD gm 0/\∀x∈xs,T.getD x.2 0<=T.getD gm 0
 bnd:∀a,(nb.getD a []).length<=2*(e+xs.length)
def sx(hp:p<nb.length)(ho:o<nb.length)(h:∀a,(nb.getD a []).length<=m)(a:Nat):((me nb p o).getD a []).length<=m+2:=by
 unfold me;rw[kq (by rw[gU];exact ho)];have h1:∀a,((put nb p o).getD a []).length<=m+1:=λa=>by
  rw[kq hp]
  split
  ·rw[length_append];have:=h p;simp only[length_cons,length_nil];omega
  ·have:=h a;omega
 split
 ·rw[length_append];have:=h1 o;simp only[length_cons,length_nil];omega
 ·have:=h1 a;omega
def J.out(B:By T ord)(j:J T ord i g rp0 nb0)(hi:i<=T.length)(hg:ord[g]?=some place)(hpl:place<i)(he:e+rp0.length<=i):∀(rest xs:List (Nat×Nat)) (nb:List (List Nat)) (gm:Nat),L T place rp0 xs rest nb0 nb gm e->
  ∃nb' rp',leave T place rest nb gm=some (nb',rp')/\J T ord i (g+1) rp' nb':=by
 have ip:=B.o.idx hg;have hpn:place<T.length:=()
 obtain ⟨h,hh,hm1,hm2,hm3,hm4⟩:=j.hom place hpl ();intro rest
 induction rest with
 | nil=>
  intro xs nb gm l;exfalso;rw[l.split,append_nil] at hh;have:=(l.edge h hh).1;omega
 | cons x r ih=>
  intro xs nb gm l;have hx0:x∈rp0:=by rw[l.split];exact mem_append_right _ mem_cons_self
  obtain ⟨q1,q2,q3,q4⟩:=j.pr x hx0;unfold leave
  by_cases hx:place<x.1
  ·rw[if_pos hx]
   have hne:ord.idxOf place<ord.idxOf x.2:=by
    rcases lt_or_ge (ord.idxOf place) (ord.idxOf x.2) with z | z
    ·exact z
    ·have:=B.o.inj hpn (show x.2<T.length by omega) ()
     omega
   have hod:Od T place x.2:=by
    refine {(),(B.lt _ _ hpn ()).mpr hne,?_};obtain ⟨k,k1,k2,k3⟩:=j.fin place x.2 () q2 () hne;exact {k,k1,k2,(B.lt _ _ k2 hpn).mpr k3}
   have hl:=l.gra.len;have ad:=λ{a b:Nat}=>nV (nb:=nb) (p:=place) (o:=x.2) () () (a:=a) (b:=b);refine ih (xs++[x]) _ _ ⟨by rw[l.split];simp,l.gra.add () hod,λa b z=>ad.mpr (.inl (l.mono a b z)),λy hy=>?_,?_,⟨Int.le_trans l.gmax.1 (Bj ..),λy hy=>?_⟩,λa=>?_⟩
   ·rcases mem_append.mp hy with hy | hy
    ·exact {(l.edge y hy).1,ad.mpr (.inl (l.edge y hy).2)}
    ·rw[mem_singleton.mp hy]
     exact {hx,ad.mpr (.inr (.inl ⟨rfl,rfl⟩))}
   ·rcases sv T gm x.2 with z | z
    ·rw[z]
     rcases l.gmem with z' | ⟨y,hy,z'⟩
     ·exact .inl z'
     ·exact .inr {y,mem_append_left _ hy,z'}
    ·exact .inr ⟨x,by simp,z⟩
   ·rcases mem_append.mp hy with hy | hy
    ·exact Int.le_trans (l.gmax.2 y hy) (Bj ..)
    ·rw[mem_singleton.mp hy]
     exact Ct ..
   ·have:=sx (nb:=nb) (p:=place) (o:=x.2) () () l.bnd a
    rw[length_append];simp only[length_cons,length_nil];omega
  ·rw[if_neg hx]
   refine {nb,_,rfl,?_};have hdec:=j.dec;rw[l.split,pairwise_append,pairwise_cons] at hdec;obtain ⟨_,⟨dx,dr⟩,dxs⟩:=hdec;have mem:∀y,y∈rp0↔y∈xs\/y=x\/y∈r:=λy=>by rw[l.split,mem_append,mem_cons]
   have hox:h=x:=by
    rcases (mem h).mp hh with z | z | z
    ·have:=(l.edge h z).1;omega
    ·exact z
    ·have h1:=dx h z
     have h2:=hm2 x hx0 ();omega
   subst hox;have sy:=l.gra.sym;have cpx:cu nb place h.2:=hm4.mono l.mono;have cgm:cu nb place (gr T gm h.2):=by
    rcases sv T gm h.2 with z | z
    ·rw[z]
     rcases l.gmem with rfl | ⟨y,hy,rfl⟩
     ·exact .refl _
     ·exact cu.one (l.edge y hy).2
    ·rw[z];exact cpx
   have gmx:∀y,y∈xs\/y=h->T.getD y.2 0<=T.getD (gr T gm h.2) 0:=λy hy=>by
    rcases hy with hy | rfl
    ·exact Int.le_trans (l.gmax.2 y hy) (Bj ..)
    ·exact Ct ..
   have gpr:gr T gm h.2=place\/(h.1<=gr T gm h.2/\gr T gm h.2<i/\g<=ord.idxOf (gr T gm h.2)):=by
    rcases sv T gm h.2 with z | z
    ·rw[z]
     rcases l.gmem with z' | ⟨y,hy,rfl⟩
     ·exact .inl z'
     ·obtain ⟨p1,p2,p3,_⟩:=j.pr y ((mem y).mpr (.inl hy))
      have:=(l.edge y hy).1;exact .inr {(),p2,p3}
    ·rw[z];exact .inr ⟨q1,q2,q3⟩
   have near:∀p,p<i->g<=ord.idxOf p->(∃y,(y∈xs\/y=h)/\h.1<=p/\T.getD p 0<=T.getD y.2 0/\cu nb p place)\/∃y∈r,y.1<=p/\(∀z∈rp0,z.1<=p->z.1<=y.1)/\T.getD p 0<=T.getD y.2 0/\cu nb p y.2:=λp hp hpg=>by
    obtain ⟨y,hy,y1,y2,y3,y4⟩:=j.hom p hp hpg;have c:=y4.mono l.mono;rcases (mem y).mp hy with z | z | z
    ·have:=(l.edge y z).1
     exact .inl {y,.inl z,(),y3,c.trans (cu.one (sy _ _ (l.edge y z).2))}
    ·subst z
     exact .inl {y,.inr rfl,y1,y3,c.trans (cpx.symm sy)}
    ·exact .inr ⟨y,z,y1,y2,y3,c⟩
   have other:∀p,p<T.length->g+1<=ord.idxOf p->T.getD place 0<T.getD p 0:=λp hp hl=>(B.lt _ _ hpn hp).mpr ();have rne:∀y∈r,y.2≠place:=λy hy z=>by
    have h1:=dx y hy;have h2:=(j.pr y ((mem y).mpr (.inr (.inr hy)))).2.2.2 h hx0 (by rw[z];exact hm1);omega
   have gne:∀p,p<T.length->p≠place->g<=ord.idxOf p->g+1<=ord.idxOf p:=λp hp hne hl=>by
    rcases lt_or_ge g (ord.idxOf p) with z | z
    ·exact z
    ·exact absurd (B.o.inj hp hpn ()) hne
   have prr:∀y∈r,y.1<=y.2/\y.2<i/\g+1<=ord.idxOf y.2/\(∀z∈r,z.1<=y.2->z.1<=y.1)/\¬ h.1<=y.2:=λy hy=>by
    obtain ⟨p1,p2,p3,p4⟩:=j.pr y ((mem y).mpr (.inr (.inr hy)));refine {p1,p2,gne _ () (rne y hy) p3,λz hz hl=>p4 z ((mem z).mpr (.inr (.inr hz))) hl,λhl=>?_};have:=p4 h hx0 hl;have:=dx y hy;omega
   have comm:∀a b,Od T a b->ord.idxOf a<g+1->cu nb a b:=λa b hab hl=>by
    by_cases ha:ord.idxOf a<g
    ·exact (j.com a b hab ha).mono l.mono
    ·obtain ⟨a1,a2,k,k1,k2,k3⟩:=hab
     have hap:a=place:=B.o.inj () hpn ();subst hap;have hki:=j.gon k k2 (by have:=(B.lt _ _ k2 hpn).mp k3;omega);have hgb:=(B.lt _ _ hpn (show b<T.length by omega)).mp a2;rcases near b () () with ⟨y,_,_,_,c⟩ | ⟨y,hy,y1,y2,_⟩
     ·exact c.symm sy
     ·have h1:=y2 h hx0 ()
      have h2:=dx y hy;omega
   have lenr:xs.length+(r.length+1)=rp0.length:=by rw[l.split,length_append,length_cons]
   have finn:∀p q,p<q->q<i->g+1<=ord.idxOf p->ord.idxOf p<ord.idxOf q->∃k,q<k/\k<T.length/\ord.idxOf k<ord.idxOf p:=λp q a b c d=>j.fin p q a b () d;have gonn:∀p,p<T.length->ord.idxOf p<g+1->p<i:=λp hp hl=>by
    by_cases hl':ord.idxOf p<g
    ·exact j.gon p hp hl'
    ·rw[B.o.inj hp hpn ()];exact hpl
   by_cases hgp:gr T gm h.2=place
   ·rw[if_pos hgp]
    refine {l.gra,dr,λy hy=>?_,λp hp hl=>?_,comm,finn,gonn,{e+xs.length,l.bnd,()}}
    ·obtain ⟨p1,p2,p3,p4,_⟩:=prr y hy
     exact ⟨p1,p2,p3,p4⟩
    ·rcases near p hp () with ⟨y,hy,y1,y2,_⟩ | ⟨y,hy,y1,y2,y3,y4⟩
     ·have h1:=gmx y hy
      have h2:=other p () hl;rw[hgp] at h1;omega
     ·exact {y,hy,y1,λz hz=>y2 z ((mem z).mpr (.inr (.inr hz))),y3,y4}
   ·rw[if_neg hgp]
    obtain ⟨g1,g2,g3⟩:=gpr.resolve_left hgp;refine ⟨l.gra,?_,λy hy=>?_,λp hp hl=>?_,comm,finn,gonn,⟨e+xs.length,l.bnd,by rw[length_cons];omega⟩⟩
    ·rw[pairwise_cons]
     exact {λy hy=>dx y hy,dr}
    ·rcases mem_cons.mp hy with rfl | hy
     ·refine {g1,g2,gne _ () hgp g3,λz hz hl=>?_}
      rcases mem_cons.mp hz with rfl | hz
      ·exact Nat.le_refl _
      ·exact Nat.le_of_lt (dx z hz)
     ·obtain ⟨p1,p2,p3,p4,p5⟩:=prr y hy
      refine {p1,p2,p3,λz hz hl=>?_};rcases mem_cons.mp hz with rfl | hz
      ·exact absurd hl p5
      ·exact p4 z hz hl
    ·rcases near p hp () with ⟨y,hy,y1,y2,c⟩ | ⟨y,hy,y1,y2,y3,y4⟩
     ·refine {_,mem_cons_self,y1,λz hz hl=>?_,Int.le_trans y2 (gmx y hy),c.trans cgm}
      rcases mem_cons.mp hz with rfl | hz
      ·exact Nat.le_refl _
      ·exact Nat.le_of_lt (dx z hz)
     ·refine {y,mem_cons_of_mem _ hy,y1,λz hz hl=>?_,y3,y4}
      rcases mem_cons.mp hz with rfl | hz
      ·exact y2 h hx0 hl
      ·exact y2 z ((mem z).mpr (.inr (.inr hz))) hl
def J.leave(B:By T ord)(j:J T ord i g rp0 nb0)(hi:i<=T.length)(hg:ord[g]?=some place)(hpl:place<i):∃nb' rp',Gp.leave T place rp0 nb0 place=some (nb',rp')/\J T ord i (g+1) rp' nb':=by
 obtain ⟨e,h1,h2⟩:=j.bnd;exact j.out B hi hg hpl h2 rp0 [] nb0 place {rfl,j.gra,λ_ _ z=>z,λx h=>(by cases h),.inl rfl,{Int.le_refl _,λx h=>(by cases h)},λa=>by simpa using h1 a}
end
abbrev gD(l:List Int)(p:Nat):Int:=l.getD p (-1)
def iE(h:i<l.length):gD (l.set i v) p=if p=i then v else gD l p:=by
 show (l.set i v).getD p (-1)=_;rw[getD_eq_getElem?_getD,List.getElem?_set]
 by_cases hp:p=i
 ·subst hp;rw[if_pos rfl,if_pos h,if_pos rfl];rfl
 ·rw[if_neg (Ne.symm hp),if_neg hp];rfl
structure F(nb:List (List Nat))(n:Nat)(dep par:List Int)(rt:Nat->Nat):Prop where
 dl:dep.length=n
 pl:par.length=n
 up:∀p,p<n->0<gD dep p->∃q:Nat,gD par p=(q:Int)/\q<n/\Adj nb q p/\gD dep q=gD dep p-1/\rt q=rt p
 ro:∀p,p<n->gD dep p=0->rt p=p
 bd:∀p,p<n->-1<=gD dep p/\gD dep p+dep.count (-1)<n
structure Nbs(nb:List (List Nat))(n:Nat):Prop where
 len:nb.length=n
 sym:∀a b,Adj nb a b->Adj nb b a
 lt:∀a b,Adj nb a b->b<n
def Cl(nb:List (List Nat))(n:Nat)(dep:List Int)(rt:Nat->Nat)(X:Nat->Prop):Prop:=∀p,p<n->0<=gD dep p->¬ X p->∀q,Adj nb p q->0<=gD dep q/\rt q=rt p
section
variable {nb:List (List Nat)} {n:Nat} {dep par:List Int} {rt:Nat->Nat}
def gi(hl:o<dep.length)(h:gD dep o=-1)(hv:v≠-1):(dep.set o v).count (-1)+1=dep.count (-1):=by
 have e:dep[o]=-1:=by
  have h':dep.getD o (-1)=-1:=h;rw[getD_eq_getElem?_getD,List.getElem?_eq_getElem hl] at h';exact h'
 rw[List.count_set hl,e];have hm:0<dep.count (-1):=List.count_pos_iff.mpr (e▸List.getElem_mem hl);have hb:(v==(-1:Int))=false:=by simpa using hv
 rw[hb];simp only[beq_self_eq_true,if_true];simp;omega
def F.reach(f:F nb n dep par rt)(ho:o<n)(hD:gD dep o=-1)(hl':par'.length=n)(hp:∀p,p≠o->gD par' p=gD par p)
  (hv:(v=0/\r=o)\/(0<v/\∃q:Nat,gD par' o=(q:Int)/\q<n/\Adj nb q o/\gD dep q=v-1/\rt q=r)):F nb n (dep.set o v) par' (λp=>if p=o then r else rt p):=by
 have hol:o<dep.length:=by rw[f.dl];exact ho
 have hv0:0<=v:=()
 have hc:=gi hol hD (show v≠-1 by omega);have g:=λ{p:Nat}=>iE (l:=dep) (i:=o) (p:=p) (v:=v) hol;have hcn:dep.count (-1)<=n:=f.dl▸List.count_le_length;refine ⟨by rw[length_set];exact f.dl,hl',λp hpn hp0=>?_,λp hpn h0=>?_,λp hpn=>?_⟩
 ·by_cases hpo:p=o
  ·subst hpo
   rw[g,if_pos rfl] at hp0 ⊢;obtain ⟨q,q1,q2,q3,q4,q5⟩:=(hv.resolve_left ()).2;have hqp:q≠p:=λz=>by rw[z,hD] at q4;omega
   refine {q,q1,q2,q3,?_,?_}
   ·rw[g,if_neg hqp];exact q4
   ·show (if q=p then r else rt q)=if p=p then r else rt p
    rw[if_neg hqp,if_pos rfl];exact q5
  ·rw[g,if_neg hpo] at hp0 ⊢
   obtain ⟨q,q1,q2,q3,q4,q5⟩:=f.up p hpn hp0;have hqo:q≠o:=λz=>by rw[z,hD] at q4;omega
   refine ⟨q,by rw[hp p hpo];exact q1,q2,q3,?_,?_⟩
   ·rw[g,if_neg hqo];exact q4
   ·show (if q=o then r else rt q)=if p=o then r else rt p
    rw[if_neg hqo,if_neg hpo];exact q5
 ·show (if p=o then r else rt p)=p
  by_cases hpo:p=o
  ·subst hpo
   rw[g,if_pos rfl] at h0;rw[if_pos rfl];exact (hv.resolve_right ()).2
  ·rw[g,if_neg hpo] at h0
   rw[if_neg hpo];exact f.ro p hpn h0
 ·by_cases hpo:p=o
  ·subst hpo
   rw[g,if_pos rfl];rcases hv with ⟨rfl,_⟩ | ⟨_,q,_,q2,_,q4,_⟩
   ·omega
   ·have:=f.bd q q2
    omega
  ·rw[g,if_neg hpo]
   have:=f.bd p hpn;omega
def Cl.reach(f:F nb n dep par rt)(c:Cl nb n dep rt X)(ho:o<n)(hD:gD dep o=-1):Cl nb n (dep.set o v) (λp=>if p=o then r else rt p) (λp=>X p\/p=o):=by
 intro p hp h0 hX q hq;have hpo:p≠o:=λz=>hX (.inr z);have g:=λ{p:Nat}=>iE (l:=dep) (i:=o) (p:=p) (v:=v) (by rw[f.dl];exact ho);rw[g,if_neg hpo] at h0;obtain ⟨h1,h2⟩:=c p hp h0 (λz=>hX (.inl z)) q hq;have hqo:q≠o:=λz=>by rw[z,hD] at h1;omega
 rw[g,if_neg hqo];refine {h1,?_};show (if q=o then r else rt q)=if p=o then r else rt p;rw[if_neg hqo,if_neg hpo];exact h2
structure W(nb:List (List Nat))(n:Nat)(root:Nat)(dep par:List Int)(st:List Nat)(cur:List Nat)(don:List Nat)(rt:Nat->Nat):Prop where
 f:F nb n dep par rt
 wait:∀p,p∈st\/p∈cur->p<n/\0<=gD dep p/\rt p=root
 cl:Cl nb n dep rt (λp=>p∈st\/p∈cur)
 done:∀q∈don,0<=gD dep q/\rt q=root
def Ext(a b:List Int):Prop:=∀p,0<=gD a p->0<=gD b p
def Ext.set(ho:o<l.length)(hv:0<=v):Ext l (l.set o v):=λp h=>by
 rw[iE ho]
 split
 ·exact hv
 ·exact h
def W.start(N:Nbs nb n)(f:F nb n dep par rt)(c:Cl nb n dep rt λ_=>False)(ho:o<n)(hD:gD dep o=-1):W nb n o (dep.set o 0) par [o] [] [] (λp=>if p=o then o else rt p):=by
 have g:=λ{p:Nat}=>iE (l:=dep) (i:=o) (p:=p) (v:=0) (by rw[f.dl];exact ho);refine {f.reach ho hD f.pl (λ_ _=>rfl) (.inl ⟨rfl,rfl⟩),λp hp=>?_,λp hp h0 hX=>?_,λq hq=>(by cases hq)}
 ·have:p=o:=by simpa using hp
  subst this;exact ⟨ho,by rw[g,if_pos rfl];exact Int.le_refl _,by simp⟩
 ·exact Cl.reach f c (r:=o) (v:=0) ho hD p hp h0 λz=>hX (by simpa using z)
def W.pop{st:List Nat}(w:W nb n root dep par (st++[cur]) [] [] rt):W nb n root dep par st [cur] [] rt:=
 ⟨w.f,λp hp=>w.wait p (by simpa using hp),λp a b c=>w.cl p a b (by simpa using c),λq hq=>(by cases hq)⟩
def W.close{st:List Nat}(w:W nb n root dep par st [cur] (nb.getD cur []) rt):W nb n root dep par st [] [] rt:=by
 refine ⟨w.f,λp hp=>w.wait p (by rcases hp with z | z;exact .inl z;cases z),λp a b c q hq=>?_,λq hq=>(by cases hq)⟩
 by_cases hpc:p=cur
 ·subst hpc
  obtain ⟨h1,h2⟩:=w.done q hq;exact {h1,h2.trans (w.wait p (.inr mem_cons_self)).2.2.symm}
 ·exact w.cl p a b (λz=>by rcases z with z | z;exact c (.inl z);exact hpc (mem_singleton.mp z)) q hq
def W.old(N:Nbs nb n){st don:List Nat}(w:W nb n root dep par st [cur] don rt)(ha:Adj nb cur o)(hD:gD dep o≠-1):W nb n root dep par st [cur] (don++[o]) rt:=by
 have ho:=N.lt _ _ ha;have h0:0<=gD dep o:=by have:=(w.f.bd o ho).1;omega
 refine {w.f,w.wait,w.cl,λq hq=>?_};rcases mem_append.mp hq with z | z
 ·exact w.done q z
 ·rw[mem_singleton.mp z]
  refine {h0,?_}
  by_cases hX:o∈st\/o∈[cur]
  ·exact (w.wait o hX).2.2
  ·have:=(w.cl o ho h0 hX cur (N.sym _ _ ha)).2
   rw[<- this];exact (w.wait cur (.inr mem_cons_self)).2.2
def W.new(N:Nbs nb n){st don:List Nat}(w:W nb n root dep par st [cur] don rt)(ha:Adj nb cur o)(hD:gD dep o=-1):
  W nb n root (dep.set o (gD dep cur+1)) (par.set o (cur:Int)) (st++[o]) [cur] (don++[o]) (λp=>if p=o then root else rt p):=by
 have ho:=N.lt _ _ ha;obtain ⟨c1,c2,c3⟩:=w.wait cur (.inr mem_cons_self);have hv:0<gD dep cur+1:=()
 have g:=λ{p:Nat}=>iE (l:=dep) (i:=o) (p:=p) (v:=gD dep cur+1) (by rw[w.f.dl];exact ho);have gp:=λ{p:Nat}=>iE (l:=par) (i:=o) (p:=p) (v:=(cur:Int)) (by rw[w.f.pl];exact ho);have keep:∀q,0<=gD dep q->rt q=root->0<=gD (dep.set o (gD dep cur+1)) q/\(if q=o then root else rt q)=root:=λq a b=>by
  have hqo:q≠o:=λz=>by rw[z,hD] at a;omega
  rw[g,if_neg hqo,if_neg hqo];exact ⟨a,b⟩
 have own:0<=gD (dep.set o (gD dep cur+1)) o/\(if o=o then root else rt o)=root:=by
  rw[g,if_pos rfl,if_pos rfl];exact {(),rfl}
 refine ⟨w.f.reach ho hD (by rw[length_set];exact w.f.pl) (λp hp=>by rw[gp,if_neg hp]) (.inr ⟨hv,cur,by rw[gp,if_pos rfl],c1,ha,(),c3⟩),λp hp=>?_,λp a b c=>?_,λq hq=>?_⟩
 ·by_cases hpo:p=o
  ·subst hpo
   exact ⟨ho,own⟩
  ·obtain ⟨a,b,c⟩:=w.wait p (by rcases hp with z | z;rcases mem_append.mp z with z | z;exact .inl z;exact absurd (mem_singleton.mp z) hpo;exact .inr z)
   exact {a,keep p b c}
 ·refine Cl.reach w.f w.cl (r:=root) (v:=gD dep cur+1) ho hD p a b λz=>c ?_
  rcases z with (z | z) | z
  ·exact .inl (mem_append_left _ z)
  ·exact .inr z
  ·exact .inl (by rw[z];simp)
 ·rcases mem_append.mp hq with z | z
  ·exact keep q (w.done q z).1 (w.done q z).2
  ·rw[mem_singleton.mp z]
   exact own
structure Fo(nb:List (List Nat))(n:Nat)(dep par:List Int)(rt:Nat->Nat):Prop where
 f:F nb n dep par rt
 cl:Cl nb n dep rt λ_=>False
 all:∀p,p<n->0<=gD dep p
def Fo.conn(N:Nbs nb n)(f:Fo nb n dep par rt)(ha:a<n)(h:cu nb a b):rt a=rt b:=by
 have:rt a=rt b/\b<n:=by
  induction h with
  | refl=>exact ⟨rfl,ha⟩
  | step _ e ih=>exact ⟨ih.1.trans (f.cl _ ih.2 (f.all _ ih.2) (λz=>z) _ e).2.symm,N.lt _ _ e⟩
 exact this.1
def j9(R:Nat->Nat->Prop):List Nat->Prop
 | []=>True
 | [_]=>True
 | x::y::r=>R x y/\j9 R (y::r)
def js{R:Nat->Nat->Prop}(hm:j9 R (a::m)):∀{l:List Nat},j9 R (l++[a])->j9 R (l++a::m)
 | [],_=>hm
 | [x],h=>⟨h.1,hm⟩
 | x::y::r,h=>⟨h.1,js hm (l:=y::r) h.2⟩
def jt{R:Nat->Nat->Prop}{a b:Nat}{l:List Nat}(h:j9 R (l++[a]))(e:R a b):j9 R (l++[a]++[b]):=by
 rw[append_assoc];exact js (m:=[b]) ⟨e,trivial⟩ h
def pq{R:Nat->Nat->Prop}(s:∀a b,R a b->R b a):∀{l:List Nat},j9 R l->j9 R l.reverse
 | [],_=>trivial
 | [x],_=>trivial
 | x::y::r,h=>by
  have ih:=pq s (l:=y::r) h.2;rw[reverse_cons] at ih;rw[reverse_cons,reverse_cons];exact jt ih (s _ _ h.1)
def pB{R:Nat->Nat->Prop}:∀{l:List Nat} {k x y:Nat},j9 R l->l[k]?=some x->l[k+1]?=some y->R x y
 | [],_,_,_,_,h,_=>by simp at h
 | [a],_,_,_,_,_,h=>by simp at h
 | a::b::r,0,x,y,h,h1,h2=>by
  cases (by simpa using h1:a=x);cases (by simpa using h2:b=y);exact h.1
 | a::b::r,k+1,x,y,h,h1,h2=>pB (l:=b::r) (k:=k) h.2 (by simpa using h1) (by simpa using h2)
structure Pt(nb:List (List Nat))(n:Nat)(dep:List Int)(rt:Nat->Nat)(c d:Nat)(i1:List Nat)(a:Nat)(i2:List Nat)(b:Nat):Prop where
 an:a<n
 bn:b<n
 s1:∀v∈i1,v<n
 s2:∀v∈i2,v<n
 l1:j9 (Adj nb) (i1++[a])
 l2:j9 (Adj nb) (i2++[b])
 f1:(i1++[a]).head?=some c
 f2:(i2++[b]).head?=some d
 d1:gD dep a+i1.length=gD dep c
 d2:gD dep b+i2.length=gD dep d
 r:rt a=rt b
 a1:∀v∈i1,gD dep a<gD dep v/\gD dep b<=gD dep v
 b2:∀v∈i2,gD dep b<gD dep v/\gD dep a<gD dep v
 n1:i1.Nodup
 n2:i2.Nodup
 x1:∀v∈i1,v∉i2/\v≠b
 x2:∀v∈i2,v≠a
def ng{α:Type}{l:List α}{a b c:α}(h:(l++[a]).head?=some c):(l++[a]++[b]).head?=some c:=by
 cases l with
 | nil=>exact h
 | cons x r=>exact h
def iF{l:List Nat}{a:Nat}(h:l.Nodup)(ha:a∉l):(l++[a]).Nodup:=by
 rw[List.nodup_append];exact ⟨h,by simp,λx hx y hy z=>ha (by rw[<- mem_singleton.mp hy,<- z];exact hx)⟩
variable {c d:Nat} {i1 i2:List Nat} {a b:Nat}
def Pt.one(N:Nbs nb n)(f:Fo nb n dep par rt)(p:Pt nb n dep rt c d i1 a i2 b)(hne:a≠b)(hd:gD dep b<=gD dep a):
  ∃a':Nat,gD par a=(a':Int)/\gD dep a'=gD dep a-1/\Pt nb n dep rt c d (i1++[a]) a' i2 b:=by
 have ha0:=f.all a p.an;have hb0:=f.all b p.bn;have hpos:0<gD dep a:=by
  rcases Int.lt_or_le 0 (gD dep a) with z | z
  ·exact z
  ·have h1:=f.f.ro a p.an ()
   have h2:=f.f.ro b p.bn ();exact absurd (h1.symm.trans (p.r.trans h2)) hne
 obtain ⟨q,q1,q2,q3,q4,q5⟩:=f.f.up a p.an hpos;refine {q,q1,q4,q2,p.bn,λv hv=>?_,p.s2,jt p.l1 (N.sym _ _ q3),p.l2,ng p.f1,p.f2,?_,p.d2,q5.trans p.r,λv hv=>?_,λv hv=>?_,iF p.n1 λz=>?_,p.n2,λv hv=>?_,λv hv z=>?_}
 ·rcases mem_append.mp hv with z | z
  ·exact p.s1 v z
  ·rw[mem_singleton.mp z];exact p.an
 ·rw[length_append];have:=p.d1;simp only[length_cons,length_nil];omega
 ·rcases mem_append.mp hv with z | z
  ·have:=p.a1 v z;omega
  ·rw[mem_singleton.mp z];omega
 ·have:=p.b2 v hv;omega
 ·have:=p.a1 a z;omega
 ·rcases mem_append.mp hv with z | z
  ·exact p.x1 v z
  ·rw[mem_singleton.mp z];exact {λw=>p.x2 a w rfl,hne}
 ·have:=p.b2 v hv;rw[z] at this;omega
def Pt.two(N:Nbs nb n)(f:Fo nb n dep par rt)(p:Pt nb n dep rt c d i1 a i2 b)(hne:a≠b)(hd:gD dep a<gD dep b):
  ∃b':Nat,gD par b=(b':Int)/\gD dep b'=gD dep b-1/\Pt nb n dep rt c d i1 a (i2++[b]) b':=by
 have ha0:=f.all a p.an;obtain ⟨q,q1,q2,q3,q4,q5⟩:=f.f.up b p.bn ();refine {q,q1,q4,p.an,q2,p.s1,λv hv=>?_,p.l1,jt p.l2 (N.sym _ _ q3),p.f1,ng p.f2,p.d1,?_,p.r.trans q5.symm,λv hv=>?_,λv hv=>?_,p.n1,iF p.n2 λz=>?_,λv hv=>?_,λv hv z=>?_}
 ·rcases mem_append.mp hv with z | z
  ·exact p.s2 v z
  ·rw[mem_singleton.mp z];exact p.bn
 ·rw[length_append];have:=p.d2;simp only[length_cons,length_nil];omega
 ·have:=p.a1 v hv;omega
 ·rcases mem_append.mp hv with z | z
  ·have:=p.b2 v z;omega
  ·rw[mem_singleton.mp z];omega
 ·have:=p.b2 b z;omega
 ·have h1:=p.a1 v hv
  refine ⟨λz=>?_,λz=>by rw[z] at h1;omega⟩;rcases mem_append.mp z with z | z
  ·exact (p.x1 v hv).1 z
  ·exact (p.x1 v hv).2 (mem_singleton.mp z)
 ·rcases mem_append.mp hv with w | w
  ·exact p.x2 v w z
  ·exact hne ((mem_singleton.mp w).symm.trans z).symm
structure Bk(nb:List (List Nat))(n c d:Nat)(l:List Nat):Prop where
 link:j9 (Adj nb) l
 nd:l.Nodup
 lt:∀v∈l,v<n
 first:l.head?=some c
 last:l.getLast?=some d
def Pt.ring(N:Nbs nb n)(p:Pt nb n dep rt c d i1 a i2 a):Bk nb n c d (i1++[a]++i2.reverse)/\((i1++[a]++i2.reverse).length:Int)=gD dep c+gD dep d-2*gD dep a+1:=by
 have e:i1++[a]++i2.reverse=i1++a::i2.reverse:=by simp
 have h2:=pq N.sym p.l2;rw[List.reverse_append] at h2;refine ⟨⟨by rw[e];exact js h2 p.l1,?_,λv hv=>?_,?_,?_⟩,?_⟩
 ·rw[List.nodup_append]
  refine {iF p.n1 λz=>?_,(List.reverse_perm i2).nodup_iff.mpr p.n2,λx hx y hy z=>?_}
  ·have:=(p.x1 a z).2;exact this rfl
  ·subst z
   rw[List.mem_reverse] at hy;rcases mem_append.mp hx with w | w
   ·exact (p.x1 x w).1 hy
   ·exact p.x2 x hy (mem_singleton.mp w)
 ·rcases mem_append.mp hv with z | z
  ·rcases mem_append.mp z with z | z
   ·exact p.s1 v z
   ·rw[mem_singleton.mp z];exact p.an
  ·exact p.s2 v (List.mem_reverse.mp z)
 ·rw[e,<- p.f1]
  cases i1<;>rfl
 ·rw[<- p.f2,getLast?_append,getLast?_append,List.getLast?_reverse]
  cases i2 with
  | nil=>rfl
  | cons x r=>rfl
 ·have h3:=p.d1
  have h4:=p.d2;rw[length_append,length_append,length_reverse];simp only[length_cons,length_nil];omega
end
end Gp
namespace Yd
def aI(m p:Nat):Nat:=
 if p=1 then 2*m-3 else if p=2*m-4 then 2*m-1 else if p=2*m-2 then 2*m-4
 else if p=2*m-1 then 2*m-2 else if p%2=0 then p+1 else p-3
def cb(m:Nat):List Int:=(List.range (2*m)).map λp=>(aI m p:Int)
def ju(m:Nat):(cb m).length=2*m:=by simp[cb]
def cw(h:p<2*m):(cb m).getD p 0=(aI m p:Int):=by
 rw[getD_eq_getElem?_getD];simp[cb,h]
def rq(q p:Nat):Nat:=if p=1 then q+1 else if p=q then q+3 else if p=q+2 then q else if p=q+3 then q+2 else if p%2=0 then p+1 else p-3
def ig(h:2*m=q+4)(p:Nat):aI m p=rq q p:=by
 unfold aI rq;rw[h];rfl
section
variable {q p:Nat}
def q1:rq q 1=q+1:=if_pos rfl
def qa(h:2<=q):rq q q=q+3:=by unfold rq;rw[if_neg (),if_pos rfl]
def qb:rq q (q+2)=q:=by unfold rq;rw[if_neg (),if_neg (),if_pos rfl]
def qc:rq q (q+3)=q+2:=by unfold rq;rw[if_neg (),if_neg (),if_neg (),if_pos rfl]
def qe(h:p%2=0)(a:p≠q)(b:p<q+2):rq q p=p+1:=by
 unfold rq;rw[if_neg (),if_neg a,if_neg (),if_neg (),if_pos h]
def qo(he:q%2=0)(h:p%2=1)(a:p≠1)(b:p<q+3):rq q p=p-3:=by
 unfold rq;rw[if_neg a,if_neg (),if_neg (),if_neg (),if_neg ()]
def nW(he:q%2=0)(a:p≠1)(b:p≠q)(c:p<q+3):rq q p<=q/\rq q p<=p+1:=by
 by_cases d:p=q+2
 ·subst d;rw[qb];omega
 rcases Nat.mod_two_eq_zero_or_one p with o | o
 ·rw[qe o b ()];omega
 ·rw[qo he o a c];omega
def C2(he:q%2=0)(hq:2<=q)(a:2<=p)(c:p<q+4):p<=rq q p+3:=by
 by_cases b:p=q
 ·subst b;rw[qa hq];omega
 by_cases d:p=q+2
 ·subst d;rw[qb];omega
 by_cases e:p=q+3
 ·subst e;rw[qc];omega
 rcases Nat.mod_two_eq_zero_or_one p with o | o
 ·rw[qe o b ()];omega
 ·rw[qo he o () ()];omega
end
def Cu(he:q%2=0)(hq:2<=q)(hij:i<j)(hjk:j<k)(hk:k<q+4)(h1:rq q k<rq q i)(h2:rq q i<rq q j):
  (i=0/\j=1)\/(i%2=0/\j=i+2/\j<=q)\/(i=1/\j=q):=by
 by_cases a1:i=1
 ·subst a1
  rw[q1] at h2
  by_cases b:j=q
  ·exact .inr (.inr ⟨rfl,b⟩)
  ·have:=(nW he () b ()).1
   omega
 have g:=C2 he hq () hk
 by_cases a2:i=q
 ·subst a2
  rw[qa hq] at h2;have:=(nW he () () (by omega:j<i+3)).1;omega
 have u:=(nW he a1 a2 ()).2;have w:k<=i+3:=()
 clear u;rcases Nat.mod_two_eq_zero_or_one i with o | o
 ·rw[qe o a2 ()] at h2
  by_cases c:j=i+2
  ·exact .inr (.inl {o,c,()})
  have c:j=i+1:=()
  by_cases z:i=0
  ·exact .inl {z,()}
  subst c;rw[qo he () () ()] at h2;omega
 ·rw[qo he o a1 ()] at h1
  omega
def uz(hm:3<=m)(hij:i<j)(hjk:j<k)(hk:k<2*m)(h1:aI m k<aI m i)(h2:aI m i<aI m j):
  (i=0/\j=1)\/(i%2=0/\j=i+2/\j<=2*m-4)\/(i=1/\j=2*m-4):=by
 obtain ⟨q,e⟩:∃q,2*m=q+4:=⟨2*m-4,()⟩;rw[ig e,ig e] at h1 h2;rw[e] at hk ⊢;exact Cu () () hij hjk hk h1 h2
def rv1:aI m 1=2*m-3:=if_pos rfl
def rva(h:3<=m):aI m (2*m-4)=2*m-1:=by
 obtain ⟨q,e⟩:∃q,2*m=q+4:=⟨2*m-4,()⟩;rw[ig e,e];exact qa ()
def rvb(h:3<=m):aI m (2*m-2)=2*m-4:=by
 obtain ⟨q,e⟩:∃q,2*m=q+4:=⟨2*m-4,()⟩;rw[ig e,e];exact qb
def rvc(h:3<=m):aI m (2*m-1)=2*m-2:=by
 obtain ⟨q,e⟩:∃q,2*m=q+4:=⟨2*m-4,()⟩;rw[ig e,e];exact qc
def rve(h:p%2=0)(a:p≠2*m-4)(b:p<2*m-2):aI m p=p+1:=by
 unfold aI;rw[if_neg (),if_neg a,if_neg (),if_neg (),if_pos h]
def rvo(h:p%2=1)(a:p≠1)(b:p<2*m-1):aI m p=p-3:=by
 unfold aI;rw[if_neg a,if_neg (),if_neg (),if_neg (),if_neg ()]
def lC(p:Nat):Nat:=if p=1 then 1 else (p/2)%2
def nX(h:p≠1):lC p=(p/2)%2:=if_neg h
def wo(hm:3<=m)(he:m%2=0)(q:(i=0/\j=1)\/(i%2=0/\j=i+2/\j<=2*m-4)\/(i=1/\j=2*m-4)):lC i≠lC j:=by
 rcases q with ⟨a,b⟩ | ⟨a,b,c⟩ | ⟨a,b⟩
 ·subst a b;decide
 ·subst b;rw[nX (),nX ()];omega
 ·subst a b;rw[nX (p:=2*m-4) (),show lC 1=1 from rfl];omega
def uB{m n:Nat}{ps sh:Nat->Nat}(hm:3<=m)(he:m%2=0)(hodd:n%2=1)(h3:1<n)
  (h:∀k,k<n->fZ (cb m) (ps k) (ps ((k+1)%n)) (sh k)):False:=by
 refine oX (c:=λk=>lC (ps k)) (m:=n) (λk hk=>?_) (λk hk z=>?_) hodd h3
 ·show lC (ps k)<2
  unfold lC
  split<;>omega
 ·obtain ⟨a,b,c,d,e⟩:=h k hk
  rw[ju] at c;rw[cw c,cw ()] at d;rw[cw (),cw ()] at e;have q:=wo hm he (uz hm a b c (Int.ofNat_lt.mp d) (Int.ofNat_lt.mp e));rcases Nat.le_total (ps k) (ps ((k+1)%n)) with o | o
  ·rw[min_eq_left o,Nat.max_eq_right o] at q
   exact q z
  ·rw[min_eq_right o,Nat.max_eq_left o] at q
   exact q z.symm
def wt(hm:3<=m)(ho:m%2=1)(B:bt (cb m) true 2 ms):False:=by
 obtain ⟨n,rfl⟩:∃n,m=n+2:=⟨m-2,()⟩;have e:2*(n+2)=2*n+4:=rfl;have he:2*n%2=0:=Nat.mul_mod_right 2 n;refine B.no_odd (ps:=λk=>if k=n+1 then 1 else 2*k) (sh:=λk=>if k=n+1 then 3 else if k=n then 2*n+2 else 2*k+3) (m:=n+2) ho () λk hk=>?_;have key:∀i j r,i<j->j<r->r<2*n+4->rq (2*n) r<rq (2*n) i->rq (2*n) i<rq (2*n) j->fZ (cb (n+2)) i j r/\fZ (cb (n+2)) j i r:=by
  intro i j r h1 h2 h3 h4 h5;have hij:=Nat.le_of_lt h1;have hj:=lt_trans h2 h3;unfold fZ;rw[min_eq_left hij,Nat.max_eq_right hij,min_eq_right hij,Nat.max_eq_left hij,ju,cw h3,cw (lt_trans h1 hj),cw hj,ig e,ig e,ig e];have e1:=Int.ofNat_lt.mpr h4;have e2:=Int.ofNat_lt.mpr h5;exact {⟨h1,h2,h3,e1,e2⟩,⟨h1,h2,h3,e1,e2⟩}
 by_cases a:k=n+1
 ·subst a
  rw[show (n+1+1)%(n+2)=0 from Nat.mod_self _,if_pos rfl,if_pos rfl,if_neg ()];refine (key 0 1 3 (by decide) (by decide) () ?_ ?_).2
  ·rw[qo he rfl (by decide) (),qe rfl () ()];decide
  ·rw[q1,qe rfl () ()];omega
 rw[if_neg a,if_neg a,show (k+1)%(n+2)=k+1 from Nat.mod_eq_of_lt ()]
 by_cases b:k=n
 ·subst b
  rw[if_pos rfl,if_pos rfl];refine (key 1 (2*k) (2*k+2) () () () ?_ ?_).2
  ·rw[qb,q1];omega
  ·rw[qa (),q1];omega
 rw[if_neg (),if_neg b];have v:=qe (q:=2*n) (p:=2*k) (Nat.mul_mod_right 2 k) () ();refine (key (2*k) (2*(k+1)) (2*k+3) () () () ?_ ?_).1
 ·rw[v,qo he () () ()];omega
 ·rw[v]
  by_cases f:k+1=n
  ·rw[f,qa ()];omega
  ·rw[qe (Nat.mul_mod_right 2 _) () ()];omega
def fB(m k:Nat):Nat:=if k=m then m-2 else if k=m-1 then m-1 else k-1
def dk(m:Nat)(p:Nat×Nat):Nat:=2*fB m p.2+p.1
def iS(m n:Nat):List (Nat×Nat):=[(1,1),(1,m),(1,2),(0,1)]++(List.range n).flatMap λi=>[(1,i+3),(0,i+2)]
def zO(m:Nat):fB m m=m-2:=if_pos rfl
def zP{m:Nat}(h:3<=m):fB m (m-1)=m-1:=by
 unfold fB;rw[if_neg (),if_pos rfl]
def pC{m k:Nat}(h:k<m-1):fB m k=k-1:=by
 unfold fB;rw[if_neg (),if_neg ()]
def gj(m a k:Nat):dk m (a,k)=2*fB m k+a:=rfl
def gW(m:Nat):iS m 0=[(1,1),(1,m),(1,2),(0,1)]:=by simp[iS]
def gX(m n:Nat):iS m (n+1)=iS m n++[(1,n+3),(0,n+2)]:=by
 unfold iS;rw[range_succ,List.flatMap_append,append_assoc];rfl
def pD{m:Nat}(hm:3<=m):∀{n:Nat},n<=m-3->(iS m n).map (dk m)=(List.range (4+2*n)).map (aI m)
 | 0,_=>by
  rw[gW];have e0:dk m (1,1)=aI m 0:=by rw[gj,pC (),rve rfl () ()]
  have e1:dk m (1,m)=aI m 1:=by rw[gj,zO,rv1];omega
  have e2:dk m (1,2)=aI m 2:=by
   rw[gj]
   by_cases h3:m=3
   ·subst h3;rfl
   ·rw[pC (),rve rfl () ()]
  have e3:dk m (0,1)=aI m 3:=by rw[gj,pC (),rvo rfl () ()]
  show [dk m (1,1),dk m (1,m),dk m (1,2),dk m (0,1)]=[aI m 0,aI m 1,aI m 2,aI m 3];rw[e0,e1,e2,e3]
 | n+1,h=>by
  rw[gX,map_append,pD hm (n:=n) (),show 4+2*(n+1)=(4+2*n)+1+1 by omega,range_succ,range_succ,map_append,map_append,append_assoc];have e1:dk m (1,n+3)=aI m (4+2*n):=by
   rw[gj]
   by_cases f:n+3=m-1
   ·rw[f,zP hm,show 4+2*n=2*m-4 by omega,rva hm];omega
   ·rw[pC (),rve () () ()];omega
  have e2:dk m (0,n+2)=aI m (4+2*n+1):=by rw[gj,pC (),rvo () () ()];omega
  show _++[dk m (1,n+3),dk m (0,n+2)]=_++([aI m (4+2*n)]++[aI m (4+2*n+1)]);rw[e1,e2];rfl
def wu{m:Nat}(hm:3<=m):(iS m (m-3)++[(0,m),(0,m-1)]).map (λp=>(dk m p:Int))=cb m:=by
 have h:=pD hm (n:=m-3) (Nat.le_refl _);have e1:dk m (0,m)=aI m (4+2*(m-3)):=by rw[gj,zO,show 4+2*(m-3)=2*m-2 by omega,rvb hm];omega
 have e2:dk m (0,m-1)=aI m (4+2*(m-3)+1):=by rw[gj,zP hm,show 4+2*(m-3)+1=2*m-1 by omega,rvc hm];omega
 have g:(iS m (m-3)++[(0,m),(0,m-1)]).map (dk m)=(List.range (2*m)).map (aI m):=by
  rw[map_append,h,show 2*m=(4+2*(m-3))+1+1 by omega,range_succ,range_succ,map_append,map_append,append_assoc];show _++[dk m (0,m),dk m (0,m-1)]=_++([aI m (4+2*(m-3))]++[aI m (4+2*(m-3)+1)]);rw[e1,e2];rfl
 unfold cb;have g2:=congrArg (List.map λx:Nat=>(x:Int)) g;rw[map_map,map_map] at g2;exact g2
def wq(q v:Nat):Nat:=if v=q+1 then 1 else if v=q+3 then q else if v=q then q+2 else if v=q+2 then q+3 else if v%2=1 then v-1 else v+3
def wv{q p:Nat}(he:q%2=0)(hq:2<=q)(hp:p<q+4):rq q p<q+4/\wq q (rq q p)=p:=by
 by_cases a:p=1
 ·subst a;rw[q1];exact {(),if_pos rfl}
 by_cases b:p=q
 ·subst b;rw[qa hq];unfold wq;rw[if_neg (),if_pos rfl];omega
 by_cases d:p=q+2
 ·subst d;rw[qb];unfold wq;rw[if_neg (),if_neg (),if_pos rfl];omega
 by_cases e:p=q+3
 ·subst e;rw[qc];unfold wq;rw[if_neg (),if_neg (),if_neg (),if_pos rfl];omega
 unfold wq;rcases Nat.mod_two_eq_zero_or_one p with o | o
 ·rw[qe o b (),if_neg (),if_neg (),if_neg (),if_neg (),if_pos ()];omega
 ·rw[qo he o a (),if_neg (),if_neg (),if_neg (),if_neg (),if_neg ()];omega
def ww{m i j:Nat}(hm:3<=m)(hij:i<j)(hj:j<2*m):aI m i≠aI m j:=λz=>by
 obtain ⟨q,e⟩:∃q,2*m=q+4:=⟨2*m-4,()⟩;have he:q%2=0:=()
 have hq:2<=q:=()
 rw[ig e,ig e] at z;rw[e] at hj;have a:=(wv he hq (lt_trans hij hj)).2;rw[z,(wv he hq hj).2] at a;omega
def pE{m:Nat}(hm:3<=m):(cb m).Nodup:=by
 unfold cb List.Nodup;rw[pairwise_map,List.pairwise_iff_getElem];intro i j hi hj hij e;simp only[List.getElem_range] at e;rw[length_range] at hj;exact ww hm hij hj (Int.ofNat_inj.mp e)
end Yd
namespace My
open PySem L2
def rot(l:List Nat):List Nat:=l.drop 1++l.take 1
def nY(l:List Nat):(rot l).length=l.length:=by
 unfold rot;rw[length_append,length_drop,length_take];omega
def sC(h:k<l.length):(rot l)[k]?=l[(k+1)%l.length]?:=by
 unfold rot
 by_cases hk:k+1<l.length
 ·rw[Nat.mod_eq_of_lt hk,getElem?_append_left (by rw[length_drop];omega),List.getElem?_drop,Nat.add_comm]
 ·have e:k+1=l.length:=()
  rw[e,Nat.mod_self,getElem?_append_right (by rw[length_drop];omega),length_drop,show k-(l.length-1)=0 by omega];rw[List.getElem?_take_of_lt (by decide)]
def shI(ord ring:List Nat):List Int:=(ring.zip (rot ring)).map λx=>mx (ord.take (ord.idxOf (min x.1 x.2)))
structure ii(T:List Int)(ring sh:List Nat):Prop where
 len:sh.length=ring.length
 odd:ring.length%2=1
 three:3<=ring.length
 nd:ring.Nodup
 at_:∀k,k<ring.length->Yd.fZ T (ring.getD k 0) (ring.getD ((k+1)%ring.length) 0) (sh.getD k 0)
def pF(B:Gp.By T ord)(h:Gp.Od T a b):∃s:Nat,mx (ord.take (ord.idxOf a))=(s:Int)/\b<s/\s<T.length/\T.getD s 0<T.getD a 0:=by
 obtain ⟨hab,hT,k,hk,hkn,hkT⟩:=h;have hi:=(B.lt k a hkn ()).mp hkT;have hm:k∈ord.take (ord.idxOf a):=mem_of_getElem? (i:=ord.idxOf k) (by rw[List.getElem?_take_of_lt hi];exact B.o.at_ hkn);obtain ⟨s,hs,es⟩:=Be hm;have hmax:=vX hm;have hsn:s<T.length:=(B.o.mem s).mp (List.mem_of_mem_take hs);refine {s,es,(),hsn,(B.lt s a hsn ()).mpr ?_};obtain ⟨i,hil,ei⟩:=getElem_of_mem hs;rw[length_take] at hil;rw[List.getElem_take] at ei;rw[B.o.idx (show ord[i]?=some s by rw[List.getElem?_eq_getElem (),ei])];omega
def Bl(B:Gp.By T ord)(G:Gp.Gr T nb)(R:Gp.Bk nb T.length c d ring)(hcd:Gp.Od T c d)(hodd:ring.length%2=1):∃sh:List Nat,shI ord ring=sh.map (λ(p:Nat)=>(p:Int))/\ii T ring sh:=by
 have hne:c≠d:=Nat.ne_of_lt hcd.1;have h3:3<=ring.length:=by
  have h1:=R.first;have h2:=R.last;rcases ring with _ | ⟨x,_ | ⟨y,_ | ⟨z,r⟩⟩⟩
  ·cases h1
  ·cases h1
   cases h2;exact absurd rfl hne
  ·simp at hodd
  ·simp only[length_cons];omega
 have lk:∀k a b,ring[k]?=some a->ring[(k+1)%ring.length]?=some b->Gp.Od T (min a b) (max a b):=λk a b e1 e2=>by
  have hk:=(List.getElem?_eq_some_iff.mp e1).1
  by_cases hl:k+1<ring.length
  ·rw[Nat.mod_eq_of_lt hl] at e2
   exact G.od a b (Gp.pB R.link e1 e2)
  ·have e:k+1=ring.length:=()
   rw[e,Nat.mod_self] at e2;have h1:=R.first;have h2:=R.last;rw[List.head?_eq_getElem?,e2] at h1;rw[getLast?_eq_getElem?,show ring.length-1=k by omega,e1] at h2;cases h1;cases h2;rw[min_eq_right (Nat.le_of_lt hcd.1),Nat.max_eq_left (Nat.le_of_lt hcd.1)];exact hcd
 have hz:(ring.zip (rot ring)).length=ring.length:=by rw[length_zip,nY,min_self]
 have zg:∀k a b,ring[k]?=some a->ring[(k+1)%ring.length]?=some b->(ring.zip (rot ring))[k]?=some (a,b):=λk a b e1 e2=>by
  have hk:=(List.getElem?_eq_some_iff.mp e1).1;rw[List.getElem?_zip_eq_some];exact ⟨e1,by rw[sC hk];exact e2⟩
 have ex:∀k,k<ring.length->∃a b,ring[k]?=some a/\ring[(k+1)%ring.length]?=some b:=λk hk=>⟨_,_,List.getElem?_eq_getElem hk,List.getElem?_eq_getElem (Nat.mod_lt _ ())⟩;refine ⟨(shI ord ring).map Int.toNat,?_,by rw[length_map];unfold shI;rw[length_map,hz],hodd,h3,R.nd,λk hk=>?_⟩
 ·refine ext_getElem? λk=>?_
  rw[getElem?_map,getElem?_map]
  by_cases hk:k<ring.length
  ·obtain ⟨a,b,e1,e2⟩:=ex k hk
   obtain ⟨s,es,_⟩:=pF B (lk k a b e1 e2);unfold shI;rw[getElem?_map,zg k a b e1 e2];show some (mx _)=some (((mx _).toNat:Nat):Int);show some (mx (ord.take (ord.idxOf (min a b))))=some (((mx (ord.take (ord.idxOf (min a b)))).toNat:Nat):Int);rw[es];rfl
  ·rw[getElem?_eq_none_iff.mpr (by unfold shI;rw[length_map,hz];omega)]
   rfl
 ·obtain ⟨a,b,e1,e2⟩:=ex k hk
  have ho:=lk k a b e1 e2;obtain ⟨s,es,s1,s2,s3⟩:=pF B ho;have g1:ring.getD k 0=a:=by rw[getD_eq_getElem?_getD,e1];rfl
  have g2:ring.getD ((k+1)%ring.length) 0=b:=by rw[getD_eq_getElem?_getD,e2];rfl
  have g3:((shI ord ring).map Int.toNat).getD k 0=s:=by
   rw[getD_eq_getElem?_getD,getElem?_map];unfold shI;rw[getElem?_map,zg k a b e1 e2];show (mx (ord.take (ord.idxOf (min a b)))).toNat=s;rw[es];exact toNat_natCast s
  rw[g1,g2,g3];exact ⟨ho.1,s1,s2,s3,ho.2.1⟩
def sD{n:Nat}{l:List Nat}(h:∀x∈l,x<n):inb n (l.map λ(p:Nat)=>(p:Int))=true:=by
 unfold inb;rw[List.all_eq_true];intro z hz;obtain ⟨p,hp,rfl⟩:=mem_map.mp hz;have:=h p hp;simp only[Bool.and_eq_true,decide_eq_true_eq];omega
end My
namespace L2
open PySem
def Cv:bootBuiltins ("set":Str)=some (.type "set"):=by decide +kernel
end L2
namespace PySem
open Sem (wp)
def yS(a b c:Value):checkTypeCall "zip" ⟨[a,b,c],[]⟩=pure Unit.unit:=by kernel_rfl
def Bm(a b c:Value):checkBuiltinCall "zip.__new__" ⟨[.type "zip",a,b,c],[]⟩=pure Unit.unit:=by kernel_rfl
def yT(a b c d:Value):argsOk "object.__init__" ⟨[a,b,c,d],[]⟩:=by
 unfold argsOk;rw[signature?_of (id := "object.__init__") (n:=['_','_','t','i','n','i','_','_']) (o:=['t','c','e','j','b','o']) (by kernel_rfl) F.owner_object];kernel_rfl
abbrev bD(h:Heap)(T:Addr)(a b c:Value):Prop:=h.get? T=some { cls:=.type "tuple",data:=.seq #[a,b,c] }
structure Ap3(z TI TO i1 i2 i3 l1 l2 l3:Addr):Prop where
 TIz:TI≠z
 TOz:TO≠z
 i1z:i1≠z
 i2z:i2≠z
 i3z:i3≠z
 TITO:TI≠TO
 TIi1:TI≠i1
 TIi2:TI≠i2
 TIi3:TI≠i3
 TOi1:TO≠i1
 TOi2:TO≠i2
 TOi3:TO≠i3
 i12:i1≠i2
 i13:i1≠i3
 i23:i2≠i3
 l1z:l1≠z
 l2z:l2≠z
 l3z:l3≠z
 l2TO:l2≠TO
 l3TO:l3≠TO
 l2i1:l2≠i1
 l3i1:l3≠i1
 l3i2:l3≠i2
def Bn{i1 i2 i3 TI TO z l1 l2 l3:Nat}(h1:i1<i2)(h2:i2<i3)(h3:i3<TI)(h4:TI<TO)(h5:TO<z)(ha:l1<i1)(hb:l2<i1)(hc:l3<i1):Ap3 z TI TO i1 i2 i3 l1 l2 l3:=by
 refine {?_,?_,?_,?_,?_,?_,?_,?_,?_,?_,?_,?_,?_,?_,?_,?_,?_,?_,?_,?_,?_,?_,?_}<;>first | exact Nat.ne_of_lt () | exact ne_of_gt ()
section
variable {prog:Program} {w:World} {A:Around} {E:Value->Shared->Prop} {s:Shared}
def qJ(hT:bD s.heap T a b c)
  (h:∀h',h'.get? T=some { cls:=.type "tuple",data:=.seq ((#[a,b,c]:Array Value).setIfInBounds k x) }->Heap.SameBut T s.heap h'->Q Unit.unit { s with heap:=h' }):
  wpAny (model prog w) A (updateSeq T (·.setIfInBounds k x)) Q E s:=by
 refine wpAny_updateSeq hT rfl (h _ ?_ (Heap.SameBut.update ..));rw[Heap.get?_update_self _ hT rfl];simp[Obj.mapSeq]
variable {z TI TO i1 i2 i3 l1 l2 l3:Addr} {xs ys zs:Array Value} {x y u a b c:Value} {k:Nat}
def yU{Q:Value->Shared->Prop}(D:Ap3 z TI TO i1 i2 i3 l1 l2 l3)
  (hz:IsZip s.heap z TI TO .none) (hTI:bD s.heap TI (.ref i1) (.ref i2) (.ref i3)) (hTO:bD s.heap TO a b c) (h1:s.heap.IsListIter i1 l1 k) (h2:s.heap.IsListIter i2 l2 k) (h3:s.heap.IsListIter i3 l3 k)
  (hl1:s.heap.IsList l1 xs) (hl2:s.heap.IsList l2 ys) (hl3:s.heap.IsList l3 zs) (hx:xs[k]?=some x) (hy:ys[k]?=some y) (hu:zs[k]?=some u)
  (hQ:∀h',IsZip h' z TI TO (rawInt s.heap.objs.size)->bD h' TO x y u->h'.IsListIter i1 l1 (k+1)->h'.IsListIter i2 l2 (k+1)->h'.IsListIter i3 l3 (k+1)->bD h' s.heap.objs.size x y u->h'.objs.size=s.heap.objs.size+1->
   (∀d o,d≠z->d≠TO->d≠i1->d≠i2->d≠i3->s.heap.get? d=some o->h'.get? d=some o)->Q (.ref s.heap.objs.size) { s with heap:=h' }):
  wpAny (model prog w) A (Builtin.«zip.__next__» ⟨[.ref z],[]⟩) (λfin s'=>∃v,fin=.done (.ret v)/\Q v s') E s:=by
 show wpAny _ _ (field (.ref z) 2 >>= _) _ _ _;refine wpAny_bind (wpAny_field hz rfl (x:=.bool false) rfl ?_);show wpAny _ _ (field (.ref z) 3 >>= _) _ _ _;refine wpAny_bind (wpAny_field hz rfl (x:=.ref TI) rfl ?_);refine wpAny_bind (wpAny_seqItems hTI rfl ?_);show wpAny _ _ (Builtin.SmallTypes.ownedTupleIsFree (.ref z) >>= _) _ _ _;refine wpAny_bind ?_;unfold Builtin.SmallTypes.ownedTupleIsFree;refine wpAny_bind (wpAny_field hz rfl (x:=.none) rfl (wpAny_pure ?_));simp only[if_true];refine wpAny_bind (wpAny_rule ?_);refine wpAny_bind (wpAny_field hz rfl (x:=.ref TO) rfl ?_);refine wpAny_bind (wpAny_setField_rec hz (by simp) λg1 z1 s1=>?_)
 replace z1:IsZip g1 z TI TO .ellipsis:=z1;refine wpAny_bind ?_;simp only[List.zipIdx_cons,List.zipIdx_nil,forIn_cons,forIn_nil];refine wpAny_bind (wpAny_bind (wpAny_onRaise ?_));show wpAny _ _ (Builtin.SmallTypes.nextOf (.ref i1) >>= _) _ _ _;refine wpAny_bind (wpAny_nextOf_list_item (h1.extBut s1.extBut D.i1z) (hl1.extBut s1.extBut D.l1z) hx λg2 n2 s2=>wpAny_pure ?_);have t2:bD g2 TO a b c:=s2.extBut _ _ D.TOi1 (s1.extBut _ _ D.TOz hTO);refine wpAny_bind (wpAny_seqItems t2 rfl ?_);refine wpAny_bind (qJ t2 λg3 t3 s3=>?_);replace t3:bD g3 TO x b c:=t3;refine wpAny_bind (wpAny_letGo (wpAny_pure ?_))
 refine wpAny_bind (wpAny_bind (wpAny_onRaise ?_));show wpAny _ _ (Builtin.SmallTypes.nextOf (.ref i2) >>= _) _ _ _;refine wpAny_bind (wpAny_nextOf_list_item (((h2.extBut s1.extBut D.i2z).extBut s2.extBut D.i12.symm).extBut s3.extBut D.TOi2.symm) (((hl2.extBut s1.extBut D.l2z).extBut s2.extBut D.l2i1).extBut s3.extBut D.l2TO) hy λg4 n4 s4=>wpAny_pure ?_);have t4:bD g4 TO x b c:=s4.extBut _ _ D.TOi2 t3;refine wpAny_bind (wpAny_seqItems t4 rfl ?_);refine wpAny_bind (qJ t4 λg5 t5 s5=>?_);replace t5:bD g5 TO x y c:=t5;refine wpAny_bind (wpAny_letGo (wpAny_pure ?_));refine wpAny_bind (wpAny_bind (wpAny_onRaise ?_));show wpAny _ _ (Builtin.SmallTypes.nextOf (.ref i3) >>= _) _ _ _
 refine wpAny_bind (wpAny_nextOf_list_item (((((h3.extBut s1.extBut D.i3z).extBut s2.extBut D.i13.symm).extBut s3.extBut D.TOi3.symm).extBut s4.extBut D.i23.symm).extBut s5.extBut D.TOi3.symm)
  (((((hl3.extBut s1.extBut D.l3z).extBut s2.extBut D.l3i1).extBut s3.extBut D.l3TO).extBut s4.extBut D.l3i2).extBut s5.extBut D.l3TO) hu λg6 n6 s6=>wpAny_pure ?_)
 have t6:bD g6 TO x y c:=s6.extBut _ _ D.TOi3 t5;refine wpAny_bind (wpAny_seqItems t6 rfl ?_);refine wpAny_bind (qJ t6 λg7 t7 s7=>?_);replace t7:bD g7 TO x y u:=t7;refine wpAny_bind (wpAny_letGo (wpAny_pure (wpAny_pure ?_)));refine wpAny_bind (wpAny_seqItems t7 rfl ?_);refine wpAny_bind (wpAny_newTuple ?_);have hsz:g7.objs.size=s.heap.objs.size:=by rw[s7.1,s6.1,s5.1,s4.1,s3.1,s2.1,s1.1]
 have z7:IsZip g7 z TI TO .ellipsis:=s7.extBut _ _ D.TOz.symm (s6.extBut _ _ D.i3z.symm (s5.extBut _ _ D.TOz.symm (s4.extBut _ _ D.i2z.symm (s3.extBut _ _ D.TOz.symm (s2.extBut _ _ D.i1z.symm z1)))));have k7:∀d o,d≠z->d≠TO->d≠i1->d≠i2->d≠i3->s.heap.get? d=some o->g7.get? d=some o:=λd o c1 c2 c3 c4 c5 e=>
  s7.extBut _ _ c2 (s6.extBut _ _ c5 (s5.extBut _ _ c2 (s4.extBut _ _ c4 (s3.extBut _ _ c2 (s2.extBut _ _ c3 (s1.extBut _ _ c1 e))))))
 have a1:g7.IsListIter i1 l1 (k+1):=((((n2.extBut s3.extBut D.TOi1.symm).extBut s4.extBut D.i12).extBut s5.extBut D.TOi1.symm).extBut s6.extBut D.i13).extBut s7.extBut D.TOi1.symm;have a2:g7.IsListIter i2 l2 (k+1):=((n4.extBut s5.extBut D.TOi2.symm).extBut s6.extBut D.i23).extBut s7.extBut D.TOi2.symm;have a3:g7.IsListIter i3 l3 (k+1):=n6.extBut s7.extBut D.TOi3.symm;have hzlt:z<g7.objs.size:=lt_size z7;show wpAny _ _ (Builtin.SmallTypes.ownedTupleHandOut (.ref z) (.ref g7.objs.size) >>= _) _ _ _;refine wpAny_bind ?_;unfold Builtin.SmallTypes.ownedTupleHandOut;have z8:IsZip (g7.push { cls:=.type "tuple",data:=.seq #[x,y,u] }) z TI TO .ellipsis:=get?_push_of_some _ z7
 refine wpAny_bind (wpAny_setField_rec z8 (by simp) λg8 z9 s8=>?_);replace z9:IsZip g8 z TI TO (rawInt g7.objs.size):=z9;refine wpAny_setField_rec z9 (by simp) λg9 z10 s9=>?_;replace z10:IsZip g9 z TI TO (rawInt g7.objs.size):=z10;have up:∀d o,d≠z->g7.get? d=some o->g9.get? d=some o:=λd o c1 e=>s9.extBut _ _ c1 (s8.extBut _ _ c1 (get?_push_of_some _ e));have tT:bD g9 g7.objs.size x y u:=s9.extBut _ _ (ne_of_gt hzlt) (s8.extBut _ _ (ne_of_gt hzlt) (get?_push_size _ rfl));have zz:g9.objs.size=g7.objs.size+1:=by rw[s9.1,s8.1,Heap.size_push]
 rw[hsz] at z10 tT zz;refine wpAny_pure {_,rfl,?_};show Q (.ref g7.objs.size) _;rw[hsz];exact hQ g9 z10 (up _ _ D.TOz t7) (a1.at λo e=>up _ o D.i1z e) (a2.at λo e=>up _ o D.i2z e) (a3.at λo e=>up _ o D.i3z e) tT zz λd o c1 c2 c3 c4 c5 e=>up d o c1 (k7 d o c1 c2 c3 c4 c5 e)
def Bo(hh:A.handled=none)(D:Ap3 z TI TO i1 i2 i3 l1 l2 l3)(hz:IsZip s.heap z TI TO .none)(hTI:bD s.heap TI (.ref i1) (.ref i2) (.ref i3))
  (h1:s.heap.IsListIter i1 l1 k) (hl1:s.heap.IsList l1 xs) (hx:xs[k]?=none)
  (hE:∀h' e,(∀d o,d≠z->d≠i1->s.heap.get? d=some o->h'.get? d=some o)->(∃o,h'.get? e=some o/\o.cls=.type "StopIteration")->E (.ref e) { s with heap:=h' }):
  wpAny (model prog w) A (Builtin.«zip.__next__» ⟨[.ref z],[]⟩) Q E s:=by
 show wpAny _ _ (field (.ref z) 2 >>= _) _ _ _;refine wpAny_bind (wpAny_field hz rfl (x:=.bool false) rfl ?_);show wpAny _ _ (field (.ref z) 3 >>= _) _ _ _;refine wpAny_bind (wpAny_field hz rfl (x:=.ref TI) rfl ?_);refine wpAny_bind (wpAny_seqItems hTI rfl ?_);show wpAny _ _ (Builtin.SmallTypes.ownedTupleIsFree (.ref z) >>= _) _ _ _;refine wpAny_bind ?_;unfold Builtin.SmallTypes.ownedTupleIsFree;refine wpAny_bind (wpAny_field hz rfl (x:=.none) rfl (wpAny_pure ?_));simp only[if_true];refine wpAny_bind (wpAny_rule ?_);refine wpAny_bind (wpAny_field hz rfl (x:=.ref TO) rfl ?_);refine wpAny_bind (wpAny_setField_rec hz (by simp) λg1 z1 s1=>?_)
 replace z1:IsZip g1 z TI TO .ellipsis:=z1;refine wpAny_bind ?_;simp only[List.zipIdx_cons,List.zipIdx_nil,forIn_cons,forIn_nil];refine wpAny_bind (wpAny_bind (wpAny_onRaise ?_));show wpAny _ _ (Builtin.SmallTypes.nextOf (.ref i1) >>= _) _ _ _;refine wpAny_bind (wpAny_nextOf_list_end hh (h1.extBut s1.extBut D.i1z) (hl1.extBut s1.extBut D.l1z) hx λg2 e s2 he=>?_);obtain ⟨oe,hoe,hce⟩:=he;have z2:IsZip g2 z TI TO .ellipsis:=s2 _ _ D.i1z.symm z1;have hez:e≠z:=λq=>by subst q;rw[z2] at hoe;cases hoe;simp at hce
 refine wpAny_setField_rec z2 (by simp) λg3 _ s3=>hE g3 e (λd o c1 c3 q=>s3.extBut _ _ c1 (s2 _ _ c3 (s1.extBut _ _ c1 q))) {oe,s3.extBut _ _ hez hoe,hce}
def uC(D:Ap3 z TI TO i1 i2 i3 l1 l2 l3)
  (hz:IsZip s.heap z TI TO .none) (hTI:bD s.heap TI (.ref i1) (.ref i2) (.ref i3)) (hTO:bD s.heap TO a b c) (h1:s.heap.IsListIter i1 l1 k) (h2:s.heap.IsListIter i2 l2 k) (h3:s.heap.IsListIter i3 l3 k)
  (hl1:s.heap.IsList l1 xs) (hl2:s.heap.IsList l2 ys) (hl3:s.heap.IsList l3 zs) (hx:xs[k]?=some x) (hy:ys[k]?=some y) (hu:zs[k]?=some u)
  (hQ:∀h',IsZip h' z TI TO (rawInt s.heap.objs.size)->bD h' TO x y u->h'.IsListIter i1 l1 (k+1)->h'.IsListIter i2 l2 (k+1)->h'.IsListIter i3 l3 (k+1)->bD h' s.heap.objs.size x y u->h'.objs.size=s.heap.objs.size+1->
   (∀d o,d≠z->d≠TO->d≠i1->d≠i2->d≠i3->s.heap.get? d=some o->h'.get? d=some o)->Q (some (.ref s.heap.objs.size)) { s with heap:=h' }):
  wpAny (model prog w) A (pyNext (.ref z)) Q E s:=by
 have hT:s.TypeIs (.ref z) "zip":=⟨_,hz,rfl⟩;unfold pyNext;exact wpAny_bind (wpAny_attempt (wpAny_callSpecial?_slot (name:=Str.ofString "__next__") hT F.slot_zip_next (wpAny_call_entry F.slot_zip_next hT F.entry_zip_next (yU D hz hTI hTO h1 h2 h3 hl1 hl2 hl3 hx hy hu λh' a1 a2 a3 a4 a5 a6 a7 a8=>wpAny_pure (hQ h' a1 a2 a3 a4 a5 a6 a7 a8)) (F.args_zip_next_1 _))))
def wx(hh:A.handled=none)(D:Ap3 z TI TO i1 i2 i3 l1 l2 l3)(hz:IsZip s.heap z TI TO .none)(hTI:bD s.heap TI (.ref i1) (.ref i2) (.ref i3))
  (h1:s.heap.IsListIter i1 l1 k) (hl1:s.heap.IsList l1 xs) (hx:xs[k]?=none)
  (hQ:∀h',(∀d o,d≠z->d≠i1->s.heap.get? d=some o->h'.get? d=some o)->Q none { s with heap:=h' }):wpAny (model prog w) A (pyNext (.ref z)) Q E s:=by
 have hT:s.TypeIs (.ref z) "zip":=⟨_,hz,rfl⟩;unfold pyNext;refine wpAny_bind (wpAny_attempt (wpAny_callSpecial?_slot (name:=Str.ofString "__next__") hT F.slot_zip_next (wpAny_call_entry F.slot_zip_next hT F.entry_zip_next (Bo hh D hz hTI h1 hl1 hx λh' e hk he=>?_) (F.args_zip_next_1 _))));obtain ⟨o,ho,hc⟩:=he;exact wpAny_bind (wpAny_isInstance (T := "StopIteration") (b:=true) ⟨o,ho,hc⟩ isSubtype_stop (wpAny_pure (hQ _ hk)))
end
abbrev nZ(h:Heap)(l1:Addr):Heap:=h.push { cls:=.type "list_iterator",data:=.fields #[.ref l1,.int 0 0] }
abbrev yV(h:Heap)(l1 l2:Addr):Heap:=nZ (nZ h l1) l2
abbrev yW(h:Heap)(l1 l2 l3:Addr):Heap:=nZ (yV h l1 l2) l3
abbrev yX(h:Heap)(l1 l2 l3:Addr):Heap:=(yW h l1 l2 l3).push { cls:=.type "tuple",data:=.seq #[.ref h.objs.size,.ref (nZ h l1).objs.size,.ref (yV h l1 l2).objs.size] }
abbrev yY(h:Heap)(l1 l2 l3:Addr):Heap:=(yX h l1 l2 l3).push { cls:=.type "tuple",data:=.seq #[.none,.none,.none] }
abbrev qK(h:Heap)(l1 l2 l3:Addr):Heap:=(yY h l1 l2 l3).push { cls:=.type "zip",data:=.fields #[.none,.bool false,.bool false,.ref (yW h l1 l2 l3).objs.size,.ref (yX h l1 l2 l3).objs.size] }
def wz(l1 l2 l3:Addr)(xs ys zs:Array Value):
  Meets (Builtin.«zip.__new__» ⟨[.type "zip",.ref l1,.ref l2,.ref l3],[]⟩) (λ_ R s=>s.heap.IsList l1 xs/\s.heap.IsList l2 ys/\s.heap.IsList l3 zs /\
   R (.ok (.ret (.ref (yY s.heap l1 l2 l3).objs.size))) { s with heap:=qK s.heap l1 l2 l3 }):=
 .of_wp λprog w A R s h=>by
  obtain ⟨hp,g,d,tk,os⟩:=s;obtain ⟨hl1,hl2,hl3,h⟩:=h;have hsub:=sub_zip;have hL1:Heap.IsList (Shared.heap ⟨hp,g,d,tk,os⟩) l1 xs:=hl1;have hL2:Heap.IsList (Shared.heap ⟨nZ hp l1,g,d,tk,os⟩) l2 ys:=Heap.IsList.push hl2 _;have hL3:Heap.IsList (Shared.heap ⟨nZ (nZ hp l1) l2,g,d,tk,os⟩) l3 zs:=Heap.IsList.push (Heap.IsList.push hl3 _) _
  wp_walk using wpAny_pyIter_list hL1,wpAny_pyIter_list hL2,wpAny_pyIter_list hL3
  exact {_,rfl,h}
section
variable {prog:Program} {w:World} {A:Around} {E:Value->Shared->Prop} {s:Shared}
def yZ(hl1:s.heap.IsList l1 xs)(hl2:s.heap.IsList l2 ys)(hl3:s.heap.IsList l3 zs)
  (h:∀h',IsZip h' (s.heap.objs.size+5) (s.heap.objs.size+3) (s.heap.objs.size+4) .none->bD h' (s.heap.objs.size+3) (.ref s.heap.objs.size) (.ref (s.heap.objs.size+1)) (.ref (s.heap.objs.size+2))->
   bD h' (s.heap.objs.size+4) .none .none .none->h'.IsListIter s.heap.objs.size l1 0->h'.IsListIter (s.heap.objs.size+1) l2 0->h'.IsListIter (s.heap.objs.size+2) l3 0->
   (∀c o,s.heap.get? c=some o->h'.get? c=some o)->Q (.ref (s.heap.objs.size+5)) { s with heap:=h' }):
  wpAny (model prog w) A (call (.type "zip") [.ref l1,.ref l2,.ref l3]) Q E s:=by
 refine callType_new F.called_zip (by decide) (yS _ _ _) (Bm _ _ _) (λobj=>yT obj _ _ _) F.entry_zip_new (wz l1 l2 l3 xs ys zs) {hl1,hl2,hl3,?_};have e1:(nZ s.heap l1).objs.size=s.heap.objs.size+1:=Heap.size_push ..;have e2:(yV s.heap l1 l2).objs.size=s.heap.objs.size+2:=by rw[Heap.size_push,e1]
 have e3:(yW s.heap l1 l2 l3).objs.size=s.heap.objs.size+3:=by rw[Heap.size_push,e2]
 have e4:(yX s.heap l1 l2 l3).objs.size=s.heap.objs.size+4:=by rw[Heap.size_push,e3]
 have e5:(yY s.heap l1 l2 l3).objs.size=s.heap.objs.size+5:=by rw[Heap.size_push,e4]
 have up:∀{h:Heap} {o:Obj} {c:Addr} {x:Obj},h.get? c=some x->(h.push o).get? c=some x:=λq=>get?_push_of_some _ q;have g6:(qK s.heap l1 l2 l3).get? (yY s.heap l1 l2 l3).objs.size=some _:=get?_push_size _ rfl;have g5:(qK s.heap l1 l2 l3).get? (yX s.heap l1 l2 l3).objs.size=some _:=up (get?_push_size _ rfl);have g4:(qK s.heap l1 l2 l3).get? (yW s.heap l1 l2 l3).objs.size=some _:=up (up (get?_push_size _ rfl));have g3:(qK s.heap l1 l2 l3).get? (yV s.heap l1 l2).objs.size=some _:=up (up (up (get?_push_size _ rfl)));have g2:(qK s.heap l1 l2 l3).get? (nZ s.heap l1).objs.size=some _:=up (up (up (up (get?_push_size _ rfl))))
 have g1:(qK s.heap l1 l2 l3).get? s.heap.objs.size=some _:=up (up (up (up (up (get?_push_size _ rfl)))));show _/\_;rw[e3,e4,e5] at g6;rw[e4] at g5;rw[e1,e2,e3] at g4;rw[e2] at g3;rw[e1] at g2;rw[e5];exact {{_,g6,rfl},h _ g6 g4 g5 {_,g1,rfl,rfl} {_,g2,rfl,rfl} {_,g3,rfl,rfl} λc o q=>up (up (up (up (up (up q)))))}
end
end PySem
namespace L2
open PySem PySem.Spec PyProof.Rows
def Bp(K:PySem.W.Frag)(a b c:Addr):It:=
 ⟨λi H=>∃xs ys zs x y z,SqL K H a xs/\SqL K H b ys/\SqL K H c zs/\xs[i]?=some x/\ys[i]?=some y/\zs[i]?=some z,
  λi H v H'=>∃t x y z,v=.ref t/\H t=none/\H'=upd H t (.tup [x,y,z])/\(∀xs,SqL K H a xs->xs[i]?=some x)/\(∀ys,SqL K H b ys->ys[i]?=some y)/\∀zs,SqL K H c zs->zs[i]?=some z,
  λi H=>∃xs,SqL K H a xs/\xs.length<=i⟩
def uD{P:Program}{w:World}{K:PySem.W.Frag}{es:List Expr}{k:Nat}{pos:Pos}(a b c z TI TO i1 i2 i3:Addr)(D:Ap3 z TI TO i1 i2 i3 a b c):
  sY P w K (.Tuple es k pos) (Bp K a b c) [z,TI,TO,i1,i2,i3] z (λi h=>IsZip h z TI TO .none/\bD h TI (.ref i1) (.ref i2) (.ref i3)/\(∃x y u,bD h TO x y u)/\h.IsListIter i1 a i/\h.IsListIter i2 b i/\h.IsListIter i3 c i) where
 mem:=by simp
 obj:=λi h st d hb=>by
  obtain ⟨hz,hTI,⟨x,y,u,hTO⟩,⟨o1,e1,c1,d1⟩,⟨o2,e2,c2,d2⟩,o3,e3,c3,d3⟩:=st;simp only[mem_cons,not_mem_nil,or_false] at hb;have fz:∀{vs:Array Value} {v:Option Value},Data.fields vs≠Data.cell v:=λq=>by cases q
  have sz:∀{vs:Array Value} {n:Nat} {v:Option Value},Data.seq vs n≠Data.cell v:=λq=>by cases q
  rcases hb with rfl | rfl | rfl | rfl | rfl | rfl
  ·exact {_,hz,λv q=>fz q}
  ·exact {_,hTI,λv q=>sz q}
  ·exact {_,hTO,λv q=>sz q}
  ·exact ⟨_,e1,λv q=>by rw[d1] at q;cases q⟩
  ·exact ⟨_,e2,λv q=>by rw[d2] at q;cases q⟩
  ·exact ⟨_,e3,λv q=>by rw[d3] at q;cases q⟩
 keep:=λi h h' st k=>⟨k z (by simp) _ st.1,k TI (by simp) _ st.2.1,let ⟨x,y,u,q⟩:=st.2.2.1;⟨x,y,u,k TO (by simp) _ q⟩,st.2.2.2.1.at λo q=>k i1 (by simp) o q,st.2.2.2.2.1.at λo q=>k i2 (by simp) o q,st.2.2.2.2.2.at λo q=>k i3 (by simp) o q⟩
 item:=by
  intro X hP hw hK hc i pins s σ H E I hf st hg;subst hP hw hK;obtain ⟨xs,ys,zs,x,y,u,hq1,hq2,hq3,hx,hy,hu⟩:=hg;obtain ⟨its1,rv1,p1,hz1⟩:=I.list hq1;obtain ⟨its2,rv2,p2,hz2⟩:=I.list hq2;obtain ⟨its3,rv3,p3,hz3⟩:=I.list hq3;obtain ⟨u1,hu1,ru1⟩:=rv1.get hx;obtain ⟨u2,hu2,ru2⟩:=rv2.get hy;obtain ⟨u3,hu3,ru3⟩:=rv3.get hu;obtain ⟨hz,hTI,⟨x0,y0,z0,hTO⟩,hi1,hi2,hi3⟩:=st;refine uC D hz hTI hTO hi1 hi2 hi3 p1.isList p2.isList p3.isList (x:=u1) (y:=u2) (u:=u3) (by simpa using hu1) (by simpa using hu2) (by simpa using hu3) λh1 gz gTO g1 g2 g3 gT gsz gk=>{_,rfl,?_};have lz:z<s.heap.objs.size:=lt_size hz
  have lT:∀c∈[z,TI,TO,i1,i2,i3],c<s.heap.objs.size:=λc hb=>by
   simp only[mem_cons,not_mem_nil,or_false] at hb;rcases hb with rfl | rfl | rfl | rfl | rfl | rfl
   ·exact lz
   ·exact lt_size hTI
   ·exact lt_size hTO
   ·obtain ⟨_,q,_⟩:=hi1;exact lt_size q
   ·obtain ⟨_,q,_⟩:=hi2;exact lt_size q
   ·obtain ⟨_,q,_⟩:=hi3;exact lt_size q
  refine wpAny_letOwnedTupleGo_zip gz λh2 gz2 hs2=>?_;refine ⟨.ref s.heap.objs.size,upd H s.heap.objs.size (.tup [x,y,u]),?_,rfl,⟨_,x,y,u,rfl,I.hok.fresh (Nat.le_refl _),rfl,λvs hv=>by rw[I.list_inj hv hq1];exact hx,λvs hv=>by rw[I.list_inj hv hq2];exact hy,λvs hv=>by rw[I.list_inj hv hq3];exact hu⟩,
   ⟨gz2,hs2.extBut _ _ D.TIz (gk _ _ D.TIz D.TITO D.TIi1 D.TIi2 D.TIi3 hTI),⟨_,_,_,hs2.extBut _ _ D.TOz gTO⟩,g1.at λo q=>hs2.extBut _ _ D.i1z q,g2.at λo q=>hs2.extBut _ _ D.i2z q,g3.at λo q=>hs2.extBut _ _ D.i3z q⟩,λc hb=>?_⟩
  ·refine I.turnedLaid (ch:=[z,TI,TO,i1,i2,i3]) hf (λc ob hb q=>hs2.extBut _ _ (λe=>hb (by simp[e])) (gk c ob (λe=>hb (by simp[e])) (λe=>hb (by simp[e])) (λe=>hb (by simp[e])) (λe=>hb (by simp[e])) (λe=>hb (by simp[e])) q)) (Nat.le_refl _) ?_
   exact nD (us:=[u1,u2,u3]) (.cons ru1 (.cons ru2 (.cons ru3 .nil))) (by show 3<=sizeLine;decide) (hs2.extBut _ _ (ne_of_gt lz) gT)
  ·rw[ae (Nat.ne_of_lt (lT c hb))]
   exact (hf c hb).1
 done:=by
  intro X hP hw hK hc i pins s σ H E I hf st hg;subst hP hw hK;obtain ⟨xs,hq1,hx⟩:=hg;obtain ⟨its1,rv1,p1,hz1⟩:=I.list hq1;obtain ⟨hz,hTI,_,hi1,_,_⟩:=st;have hl1:=rv1.length;exact wx (I.ok.hd hc) D hz hTI hi1 p1.isList (by simp;omega) λh1 eb=>⟨rfl,I.turnedAll (t':=s.toks) (ch:=[z,TI,TO,i1,i2,i3]) hf λc ob hb q=>eb c ob (λe=>hb (by simp[e])) (λe=>hb (by simp[e])) q⟩
 self:=λ_ _ _ _ _ st h=>wpAny_pyIter_zip st.1 h
def Cw(K:PySem.W.Frag)(ta:TA):TI:=λσ H R=>ta σ H λvs H1=>∃a b c,vs=[.ref a,.ref b,.ref c]/\(∃xs,SqL K H1 a xs)/\(∃ys,SqL K H1 b ys)/\(∃zs,SqL K H1 c zs)/\R (Bp K a b c) H1
def wB {X:Cx} {K:PySem.W.Frag} {es:List Expr} {k:Nat} {tpos:Pos} {l m n:Expr} {ta:TA} {p pos:Pos} (hK:X.K=K) (hg:Gl X "zip") (hm:X.mg "zip"=none) (ha:PA X [l,m,n] ta)
  (hs:starEach [l,m,n] X.env=[(false,eval l X.env),(false,eval m X.env),(false,eval n X.env)]:=by rfl) (hs2:starEach [m,n] X.env=[(false,eval m X.env),(false,eval n X.env)]:=by rfl):
  PI X (.Tuple es k tpos) (.Call (.Name "zip" p) [l,m,n] [] pos) (Cw K ta):=by
 subst hK;intro pins s σ H R I h;refine Call_ (du I hg hm mH (PyProof.Rows.callWith_type1 (thn (ha pos pins s σ H _ I h) λus s1 ⟨vs,H1,I1,r1,q1⟩=>?_) (by rw[hs,hs2]) (by rw[hs2];rfl)));obtain ⟨a,b,c,e,⟨xs,hq1⟩,⟨ys,hq2⟩,⟨zs,hq3⟩,q⟩:=q1;subst e;obtain ⟨u1,u2,u3,rfl,ru,rw',rz⟩:∃u1 u2 u3,us=[u1,u2,u3]/\av (.ref a) u1/\av (.ref b) u2/\av (.ref c) u3:=by
  rcases r1 with _ | ⟨ru,_ | ⟨rv,_ | ⟨rx,_ | _⟩⟩⟩
  exact {_,_,_,rfl,ru,rv,rx}
 cases ru;cases rw';cases rz;obtain ⟨its1,rv1,p1,hz1⟩:=I1.list hq1;obtain ⟨its2,rv2,p2,hz2⟩:=I1.list hq2;obtain ⟨its3,rv3,p3,hz3⟩:=I1.list hq3;have la:a<s1.heap.objs.size:=by obtain ⟨_,o,_⟩:=p1.isList;exact lt_size o
 have lb:b<s1.heap.objs.size:=by obtain ⟨_,o,_⟩:=p2.isList;exact lt_size o
 have lc:c<s1.heap.objs.size:=by obtain ⟨_,o,_⟩:=p3.isList;exact lt_size o
 refine yZ p1.isList p2.isList p3.isList λh1 gz gTI gTO g1 g2 g3 hk=>?_;have I2:Inv X pins σ H1 { s1 with heap:=h1 }:=I1.kept (t':=s1.toks) hk;have D:Ap3 (s1.heap.objs.size+5) (s1.heap.objs.size+3) (s1.heap.objs.size+4) s1.heap.objs.size (s1.heap.objs.size+1) (s1.heap.objs.size+2) a b c:=Bn (i1:=s1.heap.objs.size) (lt_succ_self _) (lt_succ_self _) (lt_succ_self _) (lt_succ_self _) (lt_succ_self _) la lb lc;refine wpAny_pyIter_zip gz {s1.heap.objs.size+5,[s1.heap.objs.size+5,s1.heap.objs.size+3,s1.heap.objs.size+4,s1.heap.objs.size,s1.heap.objs.size+1,s1.heap.objs.size+2],_,_,H1,rfl,I2,uD a b c _ _ _ _ _ _ D,{gz,gTI,{_,_,_,gTO},g1,g2,g3},λd hb=>?_,q}
 have hbl:s1.heap.objs.size<=d:=by
  simp only[mem_cons,not_mem_nil,or_false] at hb;rcases hb with rfl | rfl | rfl | rfl | rfl | rfl<;>first | exact Nat.le_refl _ | exact Nat.le_add_right _ _
 exact I1.fpOk hbl (I1.hok.fresh hbl)
def qL{K:PySem.W.Frag}{a b c p:Addr}{xs ys zs:List V}{g:TG}{tst:TT}{te:TE}{Q:Hp->Prop}{σ:St}{H:Hp}(Pv:Nat->St->Hp->Prop)(h0:Pv 0 σ H)(e1:ys.length=xs.length)(e2:zs.length=xs.length)(hl:∀i σ H,Pv i σ H->SqL K H a xs/\SqL K H b ys/\SqL K H c zs)
  (hs:∀i x y z t σ H,xs[i]?=some x->ys[i]?=some y->zs[i]?=some z->Pv i σ H->H t=none->g (.ref t) σ (upd H t (.tup [x,y,z])) λσ2 H2=>tst σ2 H2 λc H3=>if c=true then te σ2 H3 λy H4=>∃zs,H4 p=some (.lst zs)/\zs.length<sizeLine/\Pv (i+1) σ2 (upd H4 p (.lst (zs++[y]))) else Pv (i+1) σ2 H3)
  (hd:∀σ H,Pv xs.length σ H->Q H):oE (Bp K a b c) g tst te p Q σ H:=by
 refine {λi m σ H=>m=xs.length-i/\i<=xs.length/\Pv i σ H,⟨xs.length,by simp,zero_le _,h0⟩,?_};rintro i m σ H ⟨rfl,hi,p⟩;obtain ⟨q1,q2,q3⟩:=hl i σ H p
 by_cases hlt:i<xs.length
 ·have l2:i<ys.length:=()
  have l3:i<zs.length:=()
  refine .inr {⟨xs,ys,zs,xs[i],ys[i],zs[i],q1,q2,q3,by simp[hlt],by simp[l2],by simp[l3]⟩,Pv (i+1),λσ' H' p'=>{xs.length-(i+1),(),rfl,hlt,p'},λx H' y=>?_};obtain ⟨t,z,z',z'',rfl,hn,rfl,y1,y2,y3⟩:=y;exact hs i z z' z'' t σ H (y1 xs q1) (y2 ys q2) (y3 zs q3) p hn
 ·have e:i=xs.length:=()
  subst e;exact .inl {{xs,q1,Nat.le_refl _},hd σ H p}
end L2
namespace My
open PySem L2
def top(i:Nat):Stmt:=PySem.Challenge.pw_sidings_k03_whole_two_blind.main.body.getD i (.Pass ⟨0,0,0,0⟩)
abbrev CB:Stmt:=top 0
abbrev fC:Stmt:=ar (top 5) 0
abbrev gl:Stmt:=top 8
abbrev bI:Stmt:=top 9
abbrev bJ:Stmt:=top 10
abbrev bK:Stmt:=top 11
abbrev dD:Stmt:=top 12
abbrev dE:Stmt:=top 13
abbrev cT:Stmt:=top 14
abbrev fD:Stmt:=ar (top 16) 0
abbrev cx:Stmt:=ar (top 16) 1
abbrev dF:Stmt:=ar (top 16) 2
abbrev cU:Stmt:=ar (top 16) 3
abbrev uE:Stmt:=ar (top 16) 4
abbrev gn:Stmt:=ar (top 17) 0
abbrev cy:Stmt:=ar (top 17) 1
abbrev cV:Stmt:=ar (top 17) 2
abbrev bY:Stmt:=ar (top 17) 3
abbrev qM:Stmt:=ar (top 17) 4
abbrev ay:Stmt:=top 18
abbrev iG:Stmt:=top 20
abbrev dm:Stmt:=top 21
abbrev pR:Stmt:=top 22
abbrev pG:Stmt:=top 23
abbrev iH:Stmt:=top 24
abbrev dG:Stmt:=ar (top 26) 0
abbrev cW:Stmt:=ar (top 26) 1
abbrev za:Stmt:=ar (top 27) 0
abbrev wQ:Stmt:=ar (top 27) 1
abbrev iI:Stmt:=ar (top 28) 0
abbrev dZ:Stmt:=ar (top 28) 1
abbrev wC:Stmt:=ar (top 29) 0
abbrev uK:Stmt:=ar (top 29) 1
abbrev wR:Stmt:=ar (top 30) 0
abbrev wD:Stmt:=ar (top 30) 1
abbrev zb:Stmt:=ar (top 31) 0
abbrev wS:Stmt:=ar (top 31) 1
abbrev wT:Stmt:=ar (top 32) 0
abbrev wE:Stmt:=ar (top 32) 1
abbrev eC:Stmt:=ar (top 34) 0
abbrev eE:Stmt:=ar (top 34) 1
abbrev bP:Stmt:=ar (top 34) 2
abbrev eF:Stmt:=ar (top 34) 3
abbrev cK:Stmt:=ar (top 35) 0
abbrev bZ:Stmt:=ar (top 35) 1
abbrev bQ:Stmt:=ar (top 35) 2
abbrev cz:Stmt:=ar (top 35) 3
abbrev cB:Stmt:=top 36
abbrev bL:Stmt:=ar (top 38) 0
abbrev aZ:Stmt:=ar (top 38) 1
abbrev aA:Stmt:=ar (top 38) 2
abbrev bR:Stmt:=ar (top 38) 3
abbrev bS:Stmt:=ar (top 38) 4
abbrev cC:Stmt:=ar (top 38) 5
abbrev cX:Stmt:=top 39
abbrev eG:Stmt:=top 40
abbrev cP:Stmt:=top 42
abbrev bM:Stmt:=top 44
abbrev cQ:Stmt:=top 45
abbrev dH:Stmt:=top 46
abbrev b6:Stmt:=top 47
abbrev eI:Stmt:=top 48
abbrev dJ:Stmt:=top 49
abbrev fF:Stmt:=top 50
abbrev iJ:Stmt:=top 51
abbrev fG:Stmt:=top 52
abbrev cL:Stmt:=top 53
abbrev iT:Stmt:=top 54
abbrev dL:Pos:=⟨114,42,114,69⟩
abbrev dM:Str:=(PyProof.Rows.envOfC "places_in_order" (ah ay) 0 0 .none).qual ++ "<lambda>"
def pH:List (Str×Pos×Str):=[("places_in_order",dL,dM)]
structure Adr where
 aA:Addr
 aB:Addr
 aC:Addr
 aD:Addr
 aE:Addr
 aF:Addr
 aG:Addr
 aH:Addr
 aI:Addr
 aJ:Addr
 aK:Addr
 aL:Addr
 aM:Addr
 aN:Addr
 aO:Addr
 aP:Addr
 aQ:Addr
 aR:Addr
 aS:Addr
 aT:Addr
structure Tx(K:PySem.W.Frag)(mg:Str->Option Value)(Z:Adr):Prop where
 aB:mg "all"=none
 aC:mg "any"=none
 aD:mg "bool"=none
 aE:mg "enumerate"=none
 aG:mg "int"=none
 aH:mg "isinstance"=none
 aI:mg "len"=none
 aJ:mg "list"=none
 aK:mg "max"=none
 aL:mg "min"=none
 aM:mg "range"=none
 aN:mg "reversed"=none
 aO:mg "set"=none
 aP:mg "sorted"=none
 aQ:mg "str"=none
 aR:mg "sum"=none
 aS:mg "tuple"=none
 aT:mg "zip"=none
 aU:FnT K mg "is_number" gl ["value"]
 aV:FnT K mg "checked_train" bI ["train"]
 aW:FnT K mg "has_two_alike" bJ ["wagons"]
 aX:FnT K mg "checked_moves" bK ["moves", "many"]
 aY:FnT K mg "checked_move" dD ["move", "many"]
 a0:FnT K mg "checked_word" dE ["word"]
 a1:FnT K mg "checked_track" cT ["track", "many"]
 a2:LmT K mg "places_in_order" ay ["wagons"] Z.aS Z.aT
 a3:tabIn K "places_in_order"=some (Z.aS,Z.aT)
 a4:FnT K mg "leave_so" iG ["coming", "blind", "many", "moves", "wanted"]
 a5:FnT K mg "are_places" dm ["places", "train"]
 a6:FnT K mg "is_shown" iH ["one", "other", "shower", "train"]
 a7:FnT K mg "forest_at_odds" cB ["wagons", "leaving"]
 a8:FnT K mg "shunted_blind" cX ["leaving", "tracks", "many"]
 a9:FnT K mg "last_lesser" eG ["leaving"]
 bA:FnT K mg "two_blind" cP ["train"]
 bB:FnT K mg "_law_inserted" bM ["_law_script"]
 bC:FnT K mg "_law_made" cQ ["_law_script", "_law_blind", "_law_many"]
 bD:FnT K mg "_law_spoiled" dH ["_law_train", "_law_script"]
 bE:FnT K mg "_law_brought" b6 ["_law_train", "_law_blind", "_law_many", "_law_moves"]
 bF:FnT K mg "_law_rising" eI ["_law_places", "_law_many"]
 bG:FnT K mg "_law_at_odds" dJ ["_law_train", "_law_one", "_law_other", "_law_shown"]
 bH:FnT K mg "_law_odd" fF ["_law_train", "_law_places", "_law_shown"]
 bN:FnT K mg "_law_due" iJ ["_law_train", "_law_found"]
 bO:FnT K mg "_law_right" fG ["_law_train"]
 bT:FnT K mg "_law_ringed" cL ["_law_many"]
 bU:mg "YardError"=some (.ref Z.aA)
 bV:mg "BadMoves"=some (.ref Z.aC)
 bW:mg "Stuck"=some (.ref Z.aD)
 bX:mg "Track"=some (.ref Z.aE)
 b0:Cls K Z.aE
 b1:aF K Z.aE "blind"
 b2:aF K Z.aE "came"
 b3:aF K Z.aE "gone_ahead"
 b4:mg "Yard"=some (.ref Z.aF)
 b5:Cls K Z.aF
 b7:aF K Z.aF "blind"
 b8:aF K Z.aF "come"
 b9:aF K Z.aF "left"
 cA:aF K Z.aF "tracks"
 cD:aF K Z.aF "wagons"
 cE:mg "Answer"=some (.ref Z.aG)
 cF:mg "Shunted"=some (.ref Z.aH)
 cG:Cls K Z.aH
 cH:yB K Z.aH
 cI:aF K Z.aH "moves"
 cJ:mg "Three"=some (.ref Z.aI)
 cM:mg "Odd"=some (.ref Z.aJ)
 cN:Cls K Z.aJ
 cO:yB K Z.aJ
 cR:aF K Z.aJ "places"
 cS:aF K Z.aJ "shown"
 cY:mg "Falling"=some (.ref Z.aK)
 cZ:mg "Fewest"=some (.ref Z.aL)
 c0:mg "Given"=some (.ref Z.aM)
 c1:mg "Thrice"=some (.ref Z.aN)
 c2:mg "Forest"=some (.ref Z.aO)
 c3:Cls K Z.aO
 c4:aF K Z.aO "depths"
 c5:aF K Z.aO "neighbours"
 c6:aF K Z.aO "parents"
 c7:mg "Groups"=some (.ref Z.aP)
 c8:Cls K Z.aP
 c9:aF K Z.aP "neighbours"
 dA:aF K Z.aP "pairs"
 dB:aF K Z.aP "wagons"
 dC:mg "Shunting"=some (.ref Z.aQ)
 dI:Cls K Z.aQ
 dK:aF K Z.aQ "gone"
 dL:aF K Z.aQ "leaving"
 dM:aF K Z.aQ "moves"
 dN:aF K Z.aQ "stacks"
 dO:aF K Z.aQ "tracks"
 dP:XiT K Z.aD "Stuck.__init__" fC ["self", "at"]
 dQ:InT K Z.aE "Track.__init__" fD ["self", "blind"]
 dR:MtT K Z.aE "is_empty" "Track.is_empty" cx ["self"]
 dS:MtT K Z.aE "let_in" "Track.let_in" dF ["self", "wagon"]
 dT:MtT K Z.aE "let_out" "Track.let_out" cU ["self"]
 dU:InT K Z.aF "Yard.__init__" gn ["self", "wagons", "blind"]
 dV:MtT K Z.aF "carry_out" "Yard.carry_out" cy ["self", "steps"]
 dW:MtT K Z.aF "carry_in" "Yard.carry_in" cV ["self", "at", "place"]
 dX:MtT K Z.aF "carry_away" "Yard.carry_away" bY ["self", "at", "place"]
 dY:InT K Z.aH "Shunted.__init__" dG ["self", "moves"]
 d0:MtT K Z.aH "shows" "Shunted.shows" cW ["self", "train", "blind", "many"]
 d1:InT K Z.aJ "Odd.__init__" iI ["self", "places", "shown"]
 d2:MtT K Z.aJ "shows" "Odd.shows" dZ ["self", "train"]
 d3:InT K Z.aO "Forest.__init__" eC ["self", "neighbours"]
 d4:MtT K Z.aO "grow" "Forest.grow" eE ["self"]
 d5:MtT K Z.aO "grow_from" "Forest.grow_from" bP ["self", "root"]
 d6:MtT K Z.aO "path" "Forest.path" eF ["self", "one", "other"]
 d7:InT K Z.aP "Groups.__init__" cK ["self", "wagons"]
 d8:MtT K Z.aP "let_come" "Groups.let_come" bZ ["self", "place"]
 d9:MtT K Z.aP "let_leave" "Groups.let_leave" bQ ["self", "place"]
 eA:MtT K Z.aP "greater" "Groups.greater" cz ["self", "one", "other"]
 eB:InT K Z.aQ "Shunting.__init__" bL ["self", "leaving", "tracks", "many"]
 eD:MtT K Z.aQ "let_all_come" "Shunting.let_all_come" aZ ["self"]
 eH:MtT K Z.aQ "let_those_leave_that_can" "Shunting.let_those_leave_that_can" aA ["self"]
 eJ:MtT K Z.aQ "is_done" "Shunting.is_done" bR ["self"]
 eK:MtT K Z.aQ "covered" "Shunting.covered" bS ["self"]
 eL:MtT K Z.aQ "cover" "Shunting.cover" cC ["self"]
 eM:kitOne K (.ref Z.aH) (.ref Z.aG)=some true
 eN:kitOne K (.ref Z.aH) (.ref Z.aI)=some false
 eO:kitOne K (.ref Z.aH) (.ref Z.aJ)=some false
 eP:kitOne K (.ref Z.aH) (.ref Z.aK)=some false
 eQ:kitOne K (.ref Z.aH) (.ref Z.aL)=some false
 eR:kitOne K (.ref Z.aH) (.ref Z.aM)=some false
 eS:kitOne K (.ref Z.aH) (.ref Z.aN)=some false
 eT:kitOne K (.ref Z.aJ) (.ref Z.aG)=some true
 eU:kitOne K (.ref Z.aJ) (.ref Z.aH)=some false
 eV:kitOne K (.ref Z.aJ) (.ref Z.aI)=some false
 eW:kitOne K (.ref Z.aJ) (.ref Z.aK)=some false
 eX:kitOne K (.ref Z.aJ) (.ref Z.aL)=some false
 eY:kitOne K (.ref Z.aJ) (.ref Z.aM)=some false
 eZ:kitOne K (.ref Z.aJ) (.ref Z.aN)=some false
 e0:Xc.XC K Z.aC
 e1:PySem.W.typeIn K (.ref Z.aC)=some (.type "type")
 e2:Xc.XC K Z.aD
 e3:PySem.W.typeIn K (.ref Z.aD)=some (.type "type")
 e4:PySem.W.takerIn K Z.aD "at"=some none
 e5:PySem.W.mroIn K Z.aD (.ref Z.aC)=some false
 e6:PySem.W.mroIn K Z.aD (.ref Z.aD)=some true
 e7:oP K Z.aA
 e8:mg "WORDS"=some (.ref Z.aR)/\∀H,SqT K H Z.aR [.str "in",.str "out"]
def jv(K:PySem.W.Frag):Sp:=λvs H Q _=>∃(a:Addr) (ns:List Int),vs=[.ref a]/\SqL K H a (ns.map V.int)/\ns.length<=63/\qF K pH H/\∀H',Q (.bl true) H'
structure Cc where
 w:World
 K:PySem.W.Frag
 mg:Str->Option Value
 base:Heap
 Z:Adr
def zc(c:Cc):Prop:=∀(f:Addr) (fd:FuncData),Tx c.K c.mg c.Z->Fun c.K "law" "law" iT f fd->b9 PySem.Challenge.rw_sidings_k03_whole_two_blind.prog c.w c.K c.mg c.base CX0 11 f fd ["_law_script"] (jv c.K)
def cne:Nonempty Cc:=⟨⟨⟨λ_ _=>0,{ strHash:=λ_=>0,shareClass:=λ_=>0,mergeTok:=id,idOf:=λ_=>0,idOfShared:=λ_ _=>0,followText:=λ_=>false,idOfImm:=λ_=>0 }⟩,[],λ_=>none,{},⟨0,0,0,0,0,0,0,0,0,0,0,0,0,0,0,0,0,0,0,0⟩⟩⟩
noncomputable def cc:Cc:=@Classical.epsilon Cc cne λc=>¬ zc c
@[irreducible] noncomputable def P:Program:=PySem.Challenge.rw_sidings_k03_whole_two_blind.prog
@[irreducible] noncomputable def w:World:=cc.w
@[irreducible] noncomputable def K:PySem.W.Frag:=cc.K
@[irreducible] noncomputable def mg:Str->Option Value:=cc.mg
@[irreducible] noncomputable def base:Heap:=cc.base
@[irreducible] noncomputable def Z:Adr:=cc.Z
def _root_.L2.Fun.bs {K:PySem.W.Frag} {x qual:Str} {st:Stmt} {f:Addr} {fd:FuncData} {ps:List Str} (F:Fun K x qual st f fd) (h:∀(kV doc pm:Value) (an:Option Addr) (cdv ct:Value) (us:List Value),us.length=ps.length->bindArgs (fnOf x qual (dU st) (bW st) (ah st) .none kV doc pm an cdv ct) ⟨us,[]⟩=pure (ps.zip us):=by
  intro _ _ _ _ _ _ us hl
  first
  | exact (match us,hl with | [_],_=>rfl)
  | exact (match us,hl with | [_,_],_=>rfl)
  | exact (match us,hl with | [_,_,_],_=>rfl)
  | exact (match us,hl with | [_,_,_,_],_=>rfl)
  | exact (match us,hl with | [_,_,_,_,_],_=>rfl)):bF K fd ps []:=F.binds h
def FF(K:PySem.W.Frag)(f:Addr)(x q:Str)(st:Stmt):Prop:=∃fd,Fun K x q st f fd/\keepIn K (.ref f)=true
def FF.f{K:PySem.W.Frag}{f:Addr}{x q:Str}{st:Stmt}(h:FF K f x q st):Fun K x q st f h.choose:=h.choose_spec.1
def FF.k{K:PySem.W.Frag}{f:Addr}{x q:Str}{st:Stmt}(h:FF K f x q st):keepIn K (.ref f)=true:=h.choose_spec.2
def FF.of{K:PySem.W.Frag}{x q:Str}{st:Stmt}{f:Addr}{oc:Value}{od an:Option Addr}{osl:Array (Option Value)}{kV doc pm cdv ct:Value}(l:K.lookup f=some ⟨oc,od,.func (fnOf x q (dU st) (bW st) (ah st) .none kV doc pm an cdv ct),osl⟩)
  (c:codeIn K cdv q=true) (k:keepIn K (.ref f)=true):FF K f x q st:=⟨_,ql l c k,k⟩
abbrev OkL(l:PySem.W.OpenLaw):Prop:=∀{w:World} {K:PySem.W.Frag} {mg:Str->Option Value} {base:Heap} {Z:Adr} {f:Addr} {fd:FuncData},Tx K mg Z->Fun K "law" "law" iT f fd->b9 l.prog w K mg base CX0 11 f fd ["_law_script"] (jv K)
def Bq {l:PySem.W.OpenLaw} {w:World} {K:PySem.W.Frag} {h:Heap} {mg:Str->Option Value} {fa:Addr} (ok:OkL l) (X:K.In h) (G:h.Ns mainGlobals mg) (hfa:mg "law"=some (.ref fa))
  {f1:Addr}
  {f2:Addr}
  {f3:Addr}
  {f4:Addr}
  {f5:Addr}
  {f6:Addr}
  {f7:Addr}
  {f8:Addr} {od8 an8:Option Addr} {sl8:Array (Option Value)} {oc8 kV8 dc8 pm8 cd8 ct8:Value}
  {Lc8 Lt8:Addr}
  {f9:Addr}
  {f10:Addr}
  {f13:Addr}
  {f14:Addr}
  {f15:Addr}
  {f16:Addr}
  {f17:Addr}
  {f18:Addr}
  {f19:Addr}
  {f20:Addr}
  {f21:Addr}
  {f22:Addr}
  {f23:Addr}
  {f24:Addr}
  {f25:Addr}
  {f26:Addr}
  {f27:Addr}
  {f28:Addr} {od28 an28:Option Addr} {sl28:Array (Option Value)} {oc28 kV28 dc28 pm28 cd28 ct28:Value}
  {CYardError:Addr}
  {CBadTrain:Addr}
  {CBadMoves:Addr}
  {CStuck:Addr}
  {CTrack:Addr}
  {CYard:Addr}
  {CAnswer:Addr}
  {CShunted:Addr}
  {CThree:Addr}
  {COdd:Addr}
  {CFalling:Addr}
  {CFewest:Addr}
  {CGiven:Addr}
  {CThrice:Addr}
  {CForest:Addr}
  {CGroups:Addr}
  {CShunting:Addr}
  {fm0:Addr}
  {fm1:Addr}
  {fm2:Addr}
  {fm3:Addr}
  {fm4:Addr}
  {fm6:Addr}
  {fm7:Addr}
  {fm8:Addr}
  {fm9:Addr}
  {fm11:Addr}
  {fm12:Addr}
  {fm15:Addr}
  {fm16:Addr}
  {fm25:Addr}
  {fm26:Addr}
  {fm27:Addr}
  {fm28:Addr}
  {fm29:Addr}
  {fm30:Addr}
  {fm31:Addr}
  {fm32:Addr}
  {fm33:Addr}
  {fm34:Addr}
  {fm35:Addr}
  {fm36:Addr}
  {fm37:Addr}
  {fm38:Addr}
  {GWORDS:Addr} {tWORDS0 tWORDS1:Tok} {odWORDS:Option Addr} {nWORDS:Nat} {slWORDS:Array (Option Value)}
  (n_all:nsIn K mainGlobals "all"=some none)
  (n_any:nsIn K mainGlobals "any"=some none)
  (n_bool:nsIn K mainGlobals "bool"=some none)
  (n_enumerate:nsIn K mainGlobals "enumerate"=some none)
  (n_int:nsIn K mainGlobals "int"=some none)
  (n_isinstance:nsIn K mainGlobals "isinstance"=some none)
  (n_len:nsIn K mainGlobals "len"=some none)
  (n_list:nsIn K mainGlobals "list"=some none)
  (n_max:nsIn K mainGlobals "max"=some none)
  (n_min:nsIn K mainGlobals "min"=some none)
  (n_range:nsIn K mainGlobals "range"=some none)
  (n_reversed:nsIn K mainGlobals "reversed"=some none)
  (n_set:nsIn K mainGlobals "set"=some none)
  (n_sorted:nsIn K mainGlobals "sorted"=some none)
  (n_str:nsIn K mainGlobals "str"=some none)
  (n_sum:nsIn K mainGlobals "sum"=some none)
  (n_tuple:nsIn K mainGlobals "tuple"=some none)
  (n_zip:nsIn K mainGlobals "zip"=some none)
  (a1:nsIn K mainGlobals "is_number"=some (some (.ref f1)))
  (a2:nsIn K mainGlobals "checked_train"=some (some (.ref f2)))
  (a3:nsIn K mainGlobals "has_two_alike"=some (some (.ref f3)))
  (a4:nsIn K mainGlobals "checked_moves"=some (some (.ref f4)))
  (a5:nsIn K mainGlobals "checked_move"=some (some (.ref f5)))
  (a6:nsIn K mainGlobals "checked_word"=some (some (.ref f6)))
  (a7:nsIn K mainGlobals "checked_track"=some (some (.ref f7)))
  (a8:nsIn K mainGlobals "places_in_order"=some (some (.ref f8)))
  (l8:K.lookup f8=some ⟨oc8,od8,.func (fnOf "places_in_order" "places_in_order" (dU ay) (bW ay) (ah ay) .none kV8 dc8 pm8 an8 cd8 ct8),sl8⟩)
  (c8:codeIn K cd8 "places_in_order"=true)
  (k8:keepIn K (.ref f8)=true)
  (lt8:tabIn K "places_in_order"=some (Lc8,Lt8))
  (lc8:cd8=.ref Lc8)
  (lh8:PySem.W.codeHdIn K Lc8 Lt8=true)
  (a9:nsIn K mainGlobals "leave_so"=some (some (.ref f9)))
  (a10:nsIn K mainGlobals "are_places"=some (some (.ref f10)))
  (a13:nsIn K mainGlobals "is_shown"=some (some (.ref f13)))
  (a14:nsIn K mainGlobals "forest_at_odds"=some (some (.ref f14)))
  (a15:nsIn K mainGlobals "shunted_blind"=some (some (.ref f15)))
  (a16:nsIn K mainGlobals "last_lesser"=some (some (.ref f16)))
  (a17:nsIn K mainGlobals "two_blind"=some (some (.ref f17)))
  (a18:nsIn K mainGlobals "_law_inserted"=some (some (.ref f18)))
  (a19:nsIn K mainGlobals "_law_made"=some (some (.ref f19)))
  (a20:nsIn K mainGlobals "_law_spoiled"=some (some (.ref f20)))
  (a21:nsIn K mainGlobals "_law_brought"=some (some (.ref f21)))
  (a22:nsIn K mainGlobals "_law_rising"=some (some (.ref f22)))
  (a23:nsIn K mainGlobals "_law_at_odds"=some (some (.ref f23)))
  (a24:nsIn K mainGlobals "_law_odd"=some (some (.ref f24)))
  (a25:nsIn K mainGlobals "_law_due"=some (some (.ref f25)))
  (a26:nsIn K mainGlobals "_law_right"=some (some (.ref f26)))
  (a27:nsIn K mainGlobals "_law_ringed"=some (some (.ref f27)))
  (a28:nsIn K mainGlobals "law"=some (some (.ref f28)))
  (l28:K.lookup f28=some ⟨oc28,od28,.func (fnOf "law" "law" (dU iT) (bW iT) (ah iT) .none kV28 dc28 pm28 an28 cd28 ct28),sl28⟩)
  (c28:codeIn K cd28 "law"=true)
  (k28:keepIn K (.ref f28)=true)
  (aCYardError:nsIn K mainGlobals "YardError"=some (some (.ref CYardError)))
  (aCBadTrain:nsIn K mainGlobals "BadTrain"=some (some (.ref CBadTrain)))
  (aCBadMoves:nsIn K mainGlobals "BadMoves"=some (some (.ref CBadMoves)))
  (aCStuck:nsIn K mainGlobals "Stuck"=some (some (.ref CStuck)))
  (aCTrack:nsIn K mainGlobals "Track"=some (some (.ref CTrack)))
  (pgTrack:plainGet K CTrack Str.empty=true)
  (hdTrack:PySem.W.hasDictIn K CTrack=true)
  (poTrack:plainOver K CTrack=true)
  (saTrack:PySem.W.findIn K (.ref CTrack) "__setattr__"=some (some (.builtin "object.__setattr__")))
  (naTrack_blind:PySem.W.findIn K (.ref CTrack) "blind"=some none)
  (naTrack_came:PySem.W.findIn K (.ref CTrack) "came"=some none)
  (naTrack_gone_ahead:PySem.W.findIn K (.ref CTrack) "gone_ahead"=some none)
  (aCYard:nsIn K mainGlobals "Yard"=some (some (.ref CYard)))
  (pgYard:plainGet K CYard Str.empty=true)
  (hdYard:PySem.W.hasDictIn K CYard=true)
  (poYard:plainOver K CYard=true)
  (saYard:PySem.W.findIn K (.ref CYard) "__setattr__"=some (some (.builtin "object.__setattr__")))
  (naYard_blind:PySem.W.findIn K (.ref CYard) "blind"=some none)
  (naYard_come:PySem.W.findIn K (.ref CYard) "come"=some none)
  (naYard_left:PySem.W.findIn K (.ref CYard) "left"=some none)
  (naYard_tracks:PySem.W.findIn K (.ref CYard) "tracks"=some none)
  (naYard_wagons:PySem.W.findIn K (.ref CYard) "wagons"=some none)
  (aCAnswer:nsIn K mainGlobals "Answer"=some (some (.ref CAnswer)))
  (aCShunted:nsIn K mainGlobals "Shunted"=some (some (.ref CShunted)))
  (pgShunted:plainGet K CShunted Str.empty=true)
  (hdShunted:PySem.W.hasDictIn K CShunted=true)
  (poShunted:plainOver K CShunted=true)
  (saShunted:PySem.W.findIn K (.ref CShunted) "__setattr__"=some (some (.builtin "object.__setattr__")))
  (yaShunted:PySem.W.findIn K (.ref CShunted) "__class__"=some (some (.builtin "object.__class__")))
  (ynShunted:PySem.W.specialIn K (.builtin "object.__class__") "__get__"=some (some (.builtin "getset_descriptor.__get__")))
  (ytShunted:PySem.W.takesIn K (.builtin "object.__class__")=some true)
  (ymShunted:PySem.W.mroIn K CShunted (.type "object")=some true)
  (naShunted_moves:PySem.W.findIn K (.ref CShunted) "moves"=some none)
  (aCThree:nsIn K mainGlobals "Three"=some (some (.ref CThree)))
  (aCOdd:nsIn K mainGlobals "Odd"=some (some (.ref COdd)))
  (pgOdd:plainGet K COdd Str.empty=true)
  (hdOdd:PySem.W.hasDictIn K COdd=true)
  (poOdd:plainOver K COdd=true)
  (saOdd:PySem.W.findIn K (.ref COdd) "__setattr__"=some (some (.builtin "object.__setattr__")))
  (yaOdd:PySem.W.findIn K (.ref COdd) "__class__"=some (some (.builtin "object.__class__")))
  (ynOdd:PySem.W.specialIn K (.builtin "object.__class__") "__get__"=some (some (.builtin "getset_descriptor.__get__")))
  (ytOdd:PySem.W.takesIn K (.builtin "object.__class__")=some true)
  (ymOdd:PySem.W.mroIn K COdd (.type "object")=some true)
  (naOdd_places:PySem.W.findIn K (.ref COdd) "places"=some none)
  (naOdd_shown:PySem.W.findIn K (.ref COdd) "shown"=some none)
  (aCFalling:nsIn K mainGlobals "Falling"=some (some (.ref CFalling)))
  (aCFewest:nsIn K mainGlobals "Fewest"=some (some (.ref CFewest)))
  (aCGiven:nsIn K mainGlobals "Given"=some (some (.ref CGiven)))
  (aCThrice:nsIn K mainGlobals "Thrice"=some (some (.ref CThrice)))
  (aCForest:nsIn K mainGlobals "Forest"=some (some (.ref CForest)))
  (pgForest:plainGet K CForest Str.empty=true)
  (hdForest:PySem.W.hasDictIn K CForest=true)
  (poForest:plainOver K CForest=true)
  (saForest:PySem.W.findIn K (.ref CForest) "__setattr__"=some (some (.builtin "object.__setattr__")))
  (naForest_depths:PySem.W.findIn K (.ref CForest) "depths"=some none)
  (naForest_neighbours:PySem.W.findIn K (.ref CForest) "neighbours"=some none)
  (naForest_parents:PySem.W.findIn K (.ref CForest) "parents"=some none)
  (aCGroups:nsIn K mainGlobals "Groups"=some (some (.ref CGroups)))
  (pgGroups:plainGet K CGroups Str.empty=true)
  (hdGroups:PySem.W.hasDictIn K CGroups=true)
  (poGroups:plainOver K CGroups=true)
  (saGroups:PySem.W.findIn K (.ref CGroups) "__setattr__"=some (some (.builtin "object.__setattr__")))
  (naGroups_neighbours:PySem.W.findIn K (.ref CGroups) "neighbours"=some none)
  (naGroups_pairs:PySem.W.findIn K (.ref CGroups) "pairs"=some none)
  (naGroups_wagons:PySem.W.findIn K (.ref CGroups) "wagons"=some none)
  (aCShunting:nsIn K mainGlobals "Shunting"=some (some (.ref CShunting)))
  (pgShunting:plainGet K CShunting Str.empty=true)
  (hdShunting:PySem.W.hasDictIn K CShunting=true)
  (poShunting:plainOver K CShunting=true)
  (saShunting:PySem.W.findIn K (.ref CShunting) "__setattr__"=some (some (.builtin "object.__setattr__")))
  (naShunting_gone:PySem.W.findIn K (.ref CShunting) "gone"=some none)
  (naShunting_leaving:PySem.W.findIn K (.ref CShunting) "leaving"=some none)
  (naShunting_moves:PySem.W.findIn K (.ref CShunting) "moves"=some none)
  (naShunting_stacks:PySem.W.findIn K (.ref CShunting) "stacks"=some none)
  (naShunting_tracks:PySem.W.findIn K (.ref CShunting) "tracks"=some none)
  (am0:PySem.W.findIn K (.ref CStuck) "__init__"=some (some (.ref fm0)))
  (xim0:xIn K CStuck=true)
  (xnm0:((PySem.W.clsIn K CStuck).bind λcd=>nsIn K cd.ns "__init__")=some (some (.ref fm0)))
  (xfm0:isFn K (.ref fm0)=true)
  (xkm0:keepIn K (.ref CStuck)=true)
  (am1:PySem.W.findIn K (.ref CTrack) "__init__"=some (some (.ref fm1)))
  (mkm1:makesIn K CTrack=true)
  (ifm1:isFn K (.ref fm1)=true)
  (ikm1:keepIn K (.ref CTrack)=true)
  (am2:PySem.W.findIn K (.ref CTrack) "is_empty"=some (some (.ref fm2)))
  (mfm2:isFn K (.ref fm2)=true)
  (am3:PySem.W.findIn K (.ref CTrack) "let_in"=some (some (.ref fm3)))
  (mfm3:isFn K (.ref fm3)=true)
  (am4:PySem.W.findIn K (.ref CTrack) "let_out"=some (some (.ref fm4)))
  (mfm4:isFn K (.ref fm4)=true)
  (am6:PySem.W.findIn K (.ref CYard) "__init__"=some (some (.ref fm6)))
  (mkm6:makesIn K CYard=true)
  (ifm6:isFn K (.ref fm6)=true)
  (ikm6:keepIn K (.ref CYard)=true)
  (am7:PySem.W.findIn K (.ref CYard) "carry_out"=some (some (.ref fm7)))
  (mfm7:isFn K (.ref fm7)=true)
  (am8:PySem.W.findIn K (.ref CYard) "carry_in"=some (some (.ref fm8)))
  (mfm8:isFn K (.ref fm8)=true)
  (am9:PySem.W.findIn K (.ref CYard) "carry_away"=some (some (.ref fm9)))
  (mfm9:isFn K (.ref fm9)=true)
  (am11:PySem.W.findIn K (.ref CShunted) "__init__"=some (some (.ref fm11)))
  (mkm11:makesIn K CShunted=true)
  (ifm11:isFn K (.ref fm11)=true)
  (ikm11:keepIn K (.ref CShunted)=true)
  (am12:PySem.W.findIn K (.ref CShunted) "shows"=some (some (.ref fm12)))
  (mfm12:isFn K (.ref fm12)=true)
  (am15:PySem.W.findIn K (.ref COdd) "__init__"=some (some (.ref fm15)))
  (mkm15:makesIn K COdd=true)
  (ifm15:isFn K (.ref fm15)=true)
  (ikm15:keepIn K (.ref COdd)=true)
  (am16:PySem.W.findIn K (.ref COdd) "shows"=some (some (.ref fm16)))
  (mfm16:isFn K (.ref fm16)=true)
  (am25:PySem.W.findIn K (.ref CForest) "__init__"=some (some (.ref fm25)))
  (mkm25:makesIn K CForest=true)
  (ifm25:isFn K (.ref fm25)=true)
  (ikm25:keepIn K (.ref CForest)=true)
  (am26:PySem.W.findIn K (.ref CForest) "grow"=some (some (.ref fm26)))
  (mfm26:isFn K (.ref fm26)=true)
  (am27:PySem.W.findIn K (.ref CForest) "grow_from"=some (some (.ref fm27)))
  (mfm27:isFn K (.ref fm27)=true)
  (am28:PySem.W.findIn K (.ref CForest) "path"=some (some (.ref fm28)))
  (mfm28:isFn K (.ref fm28)=true)
  (am29:PySem.W.findIn K (.ref CGroups) "__init__"=some (some (.ref fm29)))
  (mkm29:makesIn K CGroups=true)
  (ifm29:isFn K (.ref fm29)=true)
  (ikm29:keepIn K (.ref CGroups)=true)
  (am30:PySem.W.findIn K (.ref CGroups) "let_come"=some (some (.ref fm30)))
  (mfm30:isFn K (.ref fm30)=true)
  (am31:PySem.W.findIn K (.ref CGroups) "let_leave"=some (some (.ref fm31)))
  (mfm31:isFn K (.ref fm31)=true)
  (am32:PySem.W.findIn K (.ref CGroups) "greater"=some (some (.ref fm32)))
  (mfm32:isFn K (.ref fm32)=true)
  (am33:PySem.W.findIn K (.ref CShunting) "__init__"=some (some (.ref fm33)))
  (mkm33:makesIn K CShunting=true)
  (ifm33:isFn K (.ref fm33)=true)
  (ikm33:keepIn K (.ref CShunting)=true)
  (am34:PySem.W.findIn K (.ref CShunting) "let_all_come"=some (some (.ref fm34)))
  (mfm34:isFn K (.ref fm34)=true)
  (am35:PySem.W.findIn K (.ref CShunting) "let_those_leave_that_can"=some (some (.ref fm35)))
  (mfm35:isFn K (.ref fm35)=true)
  (am36:PySem.W.findIn K (.ref CShunting) "is_done"=some (some (.ref fm36)))
  (mfm36:isFn K (.ref fm36)=true)
  (am37:PySem.W.findIn K (.ref CShunting) "covered"=some (some (.ref fm37)))
  (mfm37:isFn K (.ref fm37)=true)
  (am38:PySem.W.findIn K (.ref CShunting) "cover"=some (some (.ref fm38)))
  (mfm38:isFn K (.ref fm38)=true)
  (kitShunted_Answer:kitOne K (.ref CShunted) (.ref CAnswer)=some true)
  (kitShunted_Three:kitOne K (.ref CShunted) (.ref CThree)=some false)
  (kitShunted_Odd:kitOne K (.ref CShunted) (.ref COdd)=some false)
  (kitShunted_Falling:kitOne K (.ref CShunted) (.ref CFalling)=some false)
  (kitShunted_Fewest:kitOne K (.ref CShunted) (.ref CFewest)=some false)
  (kitShunted_Given:kitOne K (.ref CShunted) (.ref CGiven)=some false)
  (kitShunted_Thrice:kitOne K (.ref CShunted) (.ref CThrice)=some false)
  (kitOdd_Answer:kitOne K (.ref COdd) (.ref CAnswer)=some true)
  (kitOdd_Shunted:kitOne K (.ref COdd) (.ref CShunted)=some false)
  (kitOdd_Three:kitOne K (.ref COdd) (.ref CThree)=some false)
  (kitOdd_Falling:kitOne K (.ref COdd) (.ref CFalling)=some false)
  (kitOdd_Fewest:kitOne K (.ref COdd) (.ref CFewest)=some false)
  (kitOdd_Given:kitOne K (.ref COdd) (.ref CGiven)=some false)
  (kitOdd_Thrice:kitOne K (.ref COdd) (.ref CThrice)=some false)
  (xcmBadMoves:(PySem.W.clsIn K CBadMoves).any (λcd=>Xc.overVE cd.mro)=true)
  (xchBadMoves:PySem.W.hasDictIn K CBadMoves=true)
  (xcgBadMoves:PySem.W.findIn K (.ref CBadMoves) "__getattribute__"=some (some (.builtin "BaseException.__getattribute__")))
  (xcyBadMoves:PySem.W.findIn K (.ref CBadMoves) "__getattr__"=some none)
  (xcsBadMoves:PySem.W.findIn K (.ref CBadMoves) "__setattr__"=some (some (.builtin "object.__setattr__")))
  (xcaBadMoves:PySem.W.findIn K (.ref CBadMoves) "__class__"=some (some (.builtin "object.__class__")))
  (xcdBadMoves:PySem.W.specialIn K (.builtin "object.__class__") "__get__"=some (some (.builtin "getset_descriptor.__get__")))
  (xctBadMoves:PySem.W.takesIn K (.builtin "object.__class__")=some true)
  (xtyBadMoves:PySem.W.typeIn K (.ref CBadMoves)=some (.type "type"))
  (xcmStuck:(PySem.W.clsIn K CStuck).any (λcd=>Xc.overVE cd.mro)=true)
  (xchStuck:PySem.W.hasDictIn K CStuck=true)
  (xcgStuck:PySem.W.findIn K (.ref CStuck) "__getattribute__"=some (some (.builtin "BaseException.__getattribute__")))
  (xcyStuck:PySem.W.findIn K (.ref CStuck) "__getattr__"=some none)
  (xcsStuck:PySem.W.findIn K (.ref CStuck) "__setattr__"=some (some (.builtin "object.__setattr__")))
  (xcaStuck:PySem.W.findIn K (.ref CStuck) "__class__"=some (some (.builtin "object.__class__")))
  (xcdStuck:PySem.W.specialIn K (.builtin "object.__class__") "__get__"=some (some (.builtin "getset_descriptor.__get__")))
  (xctStuck:PySem.W.takesIn K (.builtin "object.__class__")=some true)
  (xtyStuck:PySem.W.typeIn K (.ref CStuck)=some (.type "type"))
  (xtStuck_at:PySem.W.takerIn K CStuck "at"=some none)
  (mroStuck_BadMoves:PySem.W.mroIn K CStuck (.ref CBadMoves)=some false)
  (mroStuck_Stuck:PySem.W.mroIn K CStuck (.ref CStuck)=some true)
  (yb1YardError:PySem.W.specialIn K (.ref CYardError) "__getattribute__"=some (some (.builtin "type.__getattribute__")))
  (yb2YardError:PySem.W.readsIn K CYardError (.type "type")=true)
  (yb3YardError:PySem.W.findCls K (.ref CYardError) (.type "type") "__init__"=some (.val (.builtin "ValueError.__init__")))
  (gWORDS:nsIn K mainGlobals "WORDS"=some (some (.ref GWORDS)))
  (glWORDS:K.lookup GWORDS=some ⟨.type "tuple",odWORDS,.seq #[.str "in" tWORDS0,.str "out" tWORDS1] nWORDS,slWORDS⟩)
  (H1:FF K f1 "is_number" "is_number" gl)
  (H2:FF K f2 "checked_train" "checked_train" bI)
  (H3:FF K f3 "has_two_alike" "has_two_alike" bJ)
  (H4:FF K f4 "checked_moves" "checked_moves" bK)
  (H5:FF K f5 "checked_move" "checked_move" dD)
  (H6:FF K f6 "checked_word" "checked_word" dE)
  (H7:FF K f7 "checked_track" "checked_track" cT)
  (H9:FF K f9 "leave_so" "leave_so" iG)
  (H10:FF K f10 "are_places" "are_places" dm)
  (H13:FF K f13 "is_shown" "is_shown" iH)
  (H14:FF K f14 "forest_at_odds" "forest_at_odds" cB)
  (H15:FF K f15 "shunted_blind" "shunted_blind" cX)
  (H16:FF K f16 "last_lesser" "last_lesser" eG)
  (H17:FF K f17 "two_blind" "two_blind" cP)
  (H18:FF K f18 "_law_inserted" "_law_inserted" bM)
  (H19:FF K f19 "_law_made" "_law_made" cQ)
  (H20:FF K f20 "_law_spoiled" "_law_spoiled" dH)
  (H21:FF K f21 "_law_brought" "_law_brought" b6)
  (H22:FF K f22 "_law_rising" "_law_rising" eI)
  (H23:FF K f23 "_law_at_odds" "_law_at_odds" dJ)
  (H24:FF K f24 "_law_odd" "_law_odd" fF)
  (H25:FF K f25 "_law_due" "_law_due" iJ)
  (H26:FF K f26 "_law_right" "_law_right" fG)
  (H27:FF K f27 "_law_ringed" "_law_ringed" cL)
  (Hm0:FF K fm0 "__init__" "Stuck.__init__" fC)
  (Hm1:FF K fm1 "__init__" "Track.__init__" fD)
  (Hm2:FF K fm2 "is_empty" "Track.is_empty" cx)
  (Hm3:FF K fm3 "let_in" "Track.let_in" dF)
  (Hm4:FF K fm4 "let_out" "Track.let_out" cU)
  (Hm6:FF K fm6 "__init__" "Yard.__init__" gn)
  (Hm7:FF K fm7 "carry_out" "Yard.carry_out" cy)
  (Hm8:FF K fm8 "carry_in" "Yard.carry_in" cV)
  (Hm9:FF K fm9 "carry_away" "Yard.carry_away" bY)
  (Hm11:FF K fm11 "__init__" "Shunted.__init__" dG)
  (Hm12:FF K fm12 "shows" "Shunted.shows" cW)
  (Hm15:FF K fm15 "__init__" "Odd.__init__" iI)
  (Hm16:FF K fm16 "shows" "Odd.shows" dZ)
  (Hm25:FF K fm25 "__init__" "Forest.__init__" eC)
  (Hm26:FF K fm26 "grow" "Forest.grow" eE)
  (Hm27:FF K fm27 "grow_from" "Forest.grow_from" bP)
  (Hm28:FF K fm28 "path" "Forest.path" eF)
  (Hm29:FF K fm29 "__init__" "Groups.__init__" cK)
  (Hm30:FF K fm30 "let_come" "Groups.let_come" bZ)
  (Hm31:FF K fm31 "let_leave" "Groups.let_leave" bQ)
  (Hm32:FF K fm32 "greater" "Groups.greater" cz)
  (Hm33:FF K fm33 "__init__" "Shunting.__init__" bL)
  (Hm34:FF K fm34 "let_all_come" "Shunting.let_all_come" aZ)
  (Hm35:FF K fm35 "let_those_leave_that_can" "Shunting.let_those_leave_that_can" aA)
  (Hm36:FF K fm36 "is_done" "Shunting.is_done" bR)
  (Hm37:FF K fm37 "covered" "Shunting.covered" bS)
  (Hm38:FF K fm38 "cover" "Shunting.cover" cC)
  : ∃fd:FuncData,(∀(s:Shared) (v:Value),BindsTo s fd ⟨[v],[]⟩ [("_law_script",v)])/\∀base:Heap,K.In base->base.Ns mainGlobals mg->b9 l.prog w K mg base CX0 11 fa fd ["_law_script"] (jv K):=by
 have e:=hfa.symm.trans (mg_of X G a28);cases e;have F8:=ql (st:=ay) l8 c8 k8;have F28:=ql (st:=iT) l28 c28 k28;have T:Tx K mg ⟨CYardError,CBadTrain,CBadMoves,CStuck,CTrack,CYard,CAnswer,CShunted,CThree,COdd,CFalling,CFewest,CGiven,CThrice,CForest,CGroups,CShunting,GWORDS,Lc8,Lt8⟩:=⟨mg_none_of X G n_all,
  mg_none_of X G n_any,
  mg_none_of X G n_bool,
  mg_none_of X G n_enumerate,
  mg_none_of X G n_int,
  mg_none_of X G n_isinstance,
  mg_none_of X G n_len,
  mg_none_of X G n_list,
  mg_none_of X G n_max,
  mg_none_of X G n_min,
  mg_none_of X G n_range,
  mg_none_of X G n_reversed,
  mg_none_of X G n_set,
  mg_none_of X G n_sorted,
  mg_none_of X G n_str,
  mg_none_of X G n_sum,
  mg_none_of X G n_tuple,
  mg_none_of X G n_zip,
  ⟨⟨_,_,H1.f,mg_of X G a1,H1.f.bs⟩⟩,
  ⟨⟨_,_,H2.f,mg_of X G a2,H2.f.bs⟩⟩,
  ⟨⟨_,_,H3.f,mg_of X G a3,H3.f.bs⟩⟩,
  ⟨⟨_,_,H4.f,mg_of X G a4,H4.f.bs⟩⟩,
  ⟨⟨_,_,H5.f,mg_of X G a5,H5.f.bs⟩⟩,
  ⟨⟨_,_,H6.f,mg_of X G a6,H6.f.bs⟩⟩,
  ⟨⟨_,_,H7.f,mg_of X G a7,H7.f.bs⟩⟩,
  ⟨⟨_,_,F8,mg_of X G a8,F8.bs,lc8⟩,lh8⟩,
  lt8,
  ⟨⟨_,_,H9.f,mg_of X G a9,H9.f.bs⟩⟩,
  ⟨⟨_,_,H10.f,mg_of X G a10,H10.f.bs⟩⟩,
  ⟨⟨_,_,H13.f,mg_of X G a13,H13.f.bs⟩⟩,
  ⟨⟨_,_,H14.f,mg_of X G a14,H14.f.bs⟩⟩,
  ⟨⟨_,_,H15.f,mg_of X G a15,H15.f.bs⟩⟩,
  ⟨⟨_,_,H16.f,mg_of X G a16,H16.f.bs⟩⟩,
  ⟨⟨_,_,H17.f,mg_of X G a17,H17.f.bs⟩⟩,
  ⟨⟨_,_,H18.f,mg_of X G a18,H18.f.bs⟩⟩,
  ⟨⟨_,_,H19.f,mg_of X G a19,H19.f.bs⟩⟩,
  ⟨⟨_,_,H20.f,mg_of X G a20,H20.f.bs⟩⟩,
  ⟨⟨_,_,H21.f,mg_of X G a21,H21.f.bs⟩⟩,
  ⟨⟨_,_,H22.f,mg_of X G a22,H22.f.bs⟩⟩,
  ⟨⟨_,_,H23.f,mg_of X G a23,H23.f.bs⟩⟩,
  ⟨⟨_,_,H24.f,mg_of X G a24,H24.f.bs⟩⟩,
  ⟨⟨_,_,H25.f,mg_of X G a25,H25.f.bs⟩⟩,
  ⟨⟨_,_,H26.f,mg_of X G a26,H26.f.bs⟩⟩,
  ⟨⟨_,_,H27.f,mg_of X G a27,H27.f.bs⟩⟩,
  mg_of X G aCYardError,
  mg_of X G aCBadMoves,
  mg_of X G aCStuck,
  mg_of X G aCTrack,
  ⟨pgTrack,hdTrack,poTrack,saTrack⟩,
  naTrack_blind,
  naTrack_came,
  naTrack_gone_ahead,
  mg_of X G aCYard,
  ⟨pgYard,hdYard,poYard,saYard⟩,
  naYard_blind,
  naYard_come,
  naYard_left,
  naYard_tracks,
  naYard_wagons,
  mg_of X G aCAnswer,
  mg_of X G aCShunted,
  ⟨pgShunted,hdShunted,poShunted,saShunted⟩,
  ⟨yaShunted,ynShunted,ytShunted,ymShunted⟩,
  naShunted_moves,
  mg_of X G aCThree,
  mg_of X G aCOdd,
  ⟨pgOdd,hdOdd,poOdd,saOdd⟩,
  ⟨yaOdd,ynOdd,ytOdd,ymOdd⟩,
  naOdd_places,
  naOdd_shown,
  mg_of X G aCFalling,
  mg_of X G aCFewest,
  mg_of X G aCGiven,
  mg_of X G aCThrice,
  mg_of X G aCForest,
  ⟨pgForest,hdForest,poForest,saForest⟩,
  naForest_depths,
  naForest_neighbours,
  naForest_parents,
  mg_of X G aCGroups,
  ⟨pgGroups,hdGroups,poGroups,saGroups⟩,
  naGroups_neighbours,
  naGroups_pairs,
  naGroups_wagons,
  mg_of X G aCShunting,
  ⟨pgShunting,hdShunting,poShunting,saShunting⟩,
  naShunting_gone,
  naShunting_leaving,
  naShunting_moves,
  naShunting_stacks,
  naShunting_tracks,
  ⟨⟨_,_,Hm0.f,⟨xim0,xnm0,xfm0,xkm0⟩,Hm0.f.bs⟩⟩,
  ⟨⟨_,_,Hm1.f,⟨mkm1,am1,ifm1,ikm1⟩,Hm1.f.bs⟩⟩,
  ⟨⟨_,_,Hm2.f,⟨am2,mfm2,Hm2.k⟩,Hm2.f.bs⟩⟩,
  ⟨⟨_,_,Hm3.f,⟨am3,mfm3,Hm3.k⟩,Hm3.f.bs⟩⟩,
  ⟨⟨_,_,Hm4.f,⟨am4,mfm4,Hm4.k⟩,Hm4.f.bs⟩⟩,
  ⟨⟨_,_,Hm6.f,⟨mkm6,am6,ifm6,ikm6⟩,Hm6.f.bs⟩⟩,
  ⟨⟨_,_,Hm7.f,⟨am7,mfm7,Hm7.k⟩,Hm7.f.bs⟩⟩,
  ⟨⟨_,_,Hm8.f,⟨am8,mfm8,Hm8.k⟩,Hm8.f.bs⟩⟩,
  ⟨⟨_,_,Hm9.f,⟨am9,mfm9,Hm9.k⟩,Hm9.f.bs⟩⟩,
  ⟨⟨_,_,Hm11.f,⟨mkm11,am11,ifm11,ikm11⟩,Hm11.f.bs⟩⟩,
  ⟨⟨_,_,Hm12.f,⟨am12,mfm12,Hm12.k⟩,Hm12.f.bs⟩⟩,
  ⟨⟨_,_,Hm15.f,⟨mkm15,am15,ifm15,ikm15⟩,Hm15.f.bs⟩⟩,
  ⟨⟨_,_,Hm16.f,⟨am16,mfm16,Hm16.k⟩,Hm16.f.bs⟩⟩,
  ⟨⟨_,_,Hm25.f,⟨mkm25,am25,ifm25,ikm25⟩,Hm25.f.bs⟩⟩,
  ⟨⟨_,_,Hm26.f,⟨am26,mfm26,Hm26.k⟩,Hm26.f.bs⟩⟩,
  ⟨⟨_,_,Hm27.f,⟨am27,mfm27,Hm27.k⟩,Hm27.f.bs⟩⟩,
  ⟨⟨_,_,Hm28.f,⟨am28,mfm28,Hm28.k⟩,Hm28.f.bs⟩⟩,
  ⟨⟨_,_,Hm29.f,⟨mkm29,am29,ifm29,ikm29⟩,Hm29.f.bs⟩⟩,
  ⟨⟨_,_,Hm30.f,⟨am30,mfm30,Hm30.k⟩,Hm30.f.bs⟩⟩,
  ⟨⟨_,_,Hm31.f,⟨am31,mfm31,Hm31.k⟩,Hm31.f.bs⟩⟩,
  ⟨⟨_,_,Hm32.f,⟨am32,mfm32,Hm32.k⟩,Hm32.f.bs⟩⟩,
  ⟨⟨_,_,Hm33.f,⟨mkm33,am33,ifm33,ikm33⟩,Hm33.f.bs⟩⟩,
  ⟨⟨_,_,Hm34.f,⟨am34,mfm34,Hm34.k⟩,Hm34.f.bs⟩⟩,
  ⟨⟨_,_,Hm35.f,⟨am35,mfm35,Hm35.k⟩,Hm35.f.bs⟩⟩,
  ⟨⟨_,_,Hm36.f,⟨am36,mfm36,Hm36.k⟩,Hm36.f.bs⟩⟩,
  ⟨⟨_,_,Hm37.f,⟨am37,mfm37,Hm37.k⟩,Hm37.f.bs⟩⟩,
  ⟨⟨_,_,Hm38.f,⟨am38,mfm38,Hm38.k⟩,Hm38.f.bs⟩⟩,
  kitShunted_Answer,
  kitShunted_Three,
  kitShunted_Odd,
  kitShunted_Falling,
  kitShunted_Fewest,
  kitShunted_Given,
  kitShunted_Thrice,
  kitOdd_Answer,
  kitOdd_Shunted,
  kitOdd_Three,
  kitOdd_Falling,
  kitOdd_Fewest,
  kitOdd_Given,
  kitOdd_Thrice,
  ⟨xcmBadMoves,xchBadMoves,xcgBadMoves,xcyBadMoves,xcsBadMoves,xcaBadMoves,xcdBadMoves,xctBadMoves⟩,
  xtyBadMoves,
  ⟨xcmStuck,xchStuck,xcgStuck,xcyStuck,xcsStuck,xcaStuck,xcdStuck,xctStuck⟩,
  xtyStuck,
  xtStuck_at,
  mroStuck_BadMoves,
  mroStuck_Stuck,
  ⟨yb1YardError,yb2YardError,yb3YardError⟩,
  ⟨mg_of X G gWORDS,λH=>.inr ⟨_,_,_,glWORDS,rfl,rfl,(by show 2<=sizeLine;decide),.cons ⟨_,rfl⟩ (.cons ⟨_,rfl⟩ (.nil))⟩⟩⟩
 exact {_,λs v=>.of_eq rfl,λbase _ _=>ok T F28}
def C3{l:PySem.W.OpenLaw}{q:Program}{loose:List Str}{XP:(Str->Option Value)->Heap->Prop}{YP:World->Heap->Prop}{d:DefRec}{K:Params->PySem.W.Frag}(hn:l.most=some 63)(hdf:d.params.defaults=[])
  (hY:∀(w:World) (h:Heap),YP w h->(K w.params).In h)
  (hL:∀e∈pH,∃d',(PyProof.Rows.recsOf q).find? (λr=>r.name==e.1)=some d') (hK:∀(w:World),∀e∈pH,∀c P,tabIn (K w.params) e.1=some (c,P)->(K w.params).lookup P=none)
  (F:∀(w:World) (mg:Str->Option Value) (fa:Addr) (h:Heap),(K w.params).In h->h.Ns mainGlobals mg->mg d.name=some (.ref fa)->
   ∃fd:FuncData,(∀(s:Shared) (u:Value),BindsTo s fd ⟨[u],[]⟩ [("_law_script",u)])/\∀base:Heap,(K w.params).In base->base.Ns mainGlobals mg->b9 l.prog w (K w.params) mg base CX0 11 fa fd ["_law_script"] (jv (K w.params))):
  PySem.W.WalkO q loose XP YP l.row.toRowW d [] (λf vs=>PySem.call f vs):=
 L2.vU (n:=63) (k:=11) (x := "_law_script") (CX:=λ_=>CX0) (sp:=λw=>jv (K w.params)) pH hn (by decide) hdf ⟨rfl,by decide,by decide⟩ hY hL hK F (λ_ _ a ns hl hT hS=>⟨a,ns,rfl,hS,hl,hT,λ_=>rfl⟩) λ_ _ _ _ _ z=>z
def wF {K:PySem.W.Frag} {c0 p0:Addr} (a0:tabIn K "places_in_order"=some (c0,p0)) (b0:K.lookup p0=none):∀e∈pH,∀c P,tabIn K e.1=some (c,P)->K.lookup P=none:=by
 intro e he c P h;simp only[pH,mem_cons,mem_nil_iff,or_false] at he;rcases he with rfl
 ·rw[a0] at h;cases h;exact b0
end My
section
open PySem PySem.W PyProof.Rows
local macro_rules | `(tactic| o_head $H) => `(tactic| (
 refine holds_open (q:=My.pwv) (loose:=[]) (Xt:=λs=>xlAt My.pwv [] s&&recOk (RowW.records _) s) (XP:=XL My.pwv []) (Yf:=Hook.obs $H) (Ya:=Hook.val $H) (YP:=Hook.says $H) (N:=20000)
  (L2.pS (p:=PySem.Challenge.pw_sidings_k03_whole_two_blind) (H₀:=boot_heap) (T₀:=λP=>L2.pT (boot_heap P).objs.toList) (life:=(boot_heap (aWorld 1).params).life) (d₀:=boot_drawn) (k₀:=boot_toks) (m₀:=11) (ann:=some (.ref 6)) (boot_open (by kernel_rfl!) (by decide) (λs=>by kernel_rfl!)) (λP=>by kernel_rfl!) (λw=>by kernel_rfl!) My.zS My.zT ?obs)
  (Hook.of $H) (Hook.keeps $H) (λs e=>xl_of s (Bool.and_eq_true_iff.mp e).1) XL.keeps (by rfl) (by rfl) (by rfl) (λs e=>recFacts_of (Bool.and_eq_true_iff.mp e).2) (by rfl) (by first | assumption | decide +kernel) (by decide +kernel) ⟨rfl,rfl,rfl,rfl,rfl,by decide +kernel⟩ ?hw ?hc))
set_option maxRecDepth 100000 in
set_option maxHeartbeats 0 in
def My.early(ok:My.OkL PySem.Challenge.rw_sidings_k03_whole_two_blind):PySem.Challenge.rw_sidings_k03_whole_two_blind.Holds:=by
 w_on;o_law;k_head
 (case obs=>
  intro w os
  rewrite [PySem.W.Fast.te10156331382660048174,PySem.W.Fast.te11892475500146522536,PySem.W.Fast.te14364793385576792824]
  kernel_rfl)
 (case hw=>w_witness2)
 k_fill
 refine My.C3 (l:=PySem.Challenge.rw_sidings_k03_whole_two_blind) rfl rfl (λw h Y=>by first | exact PySem.W.km_in_of Y | exact PySem.W.kIn_of Y) ?hL ?hK ?F
 case hL=>
  intro e he;simp only[My.pH,mem_cons,mem_nil_iff,or_false] at he;rcases he with rfl<;>exact ⟨_,rfl⟩
 case hK=>
  intro w;refine' My.wF ?a0 ?b0
  (case a0=>first | k_is | kernel_rfl! | exact rfl)
  (case b0=>first | k_is | kernel_rfl! | exact rfl)
 case F=>
  intro w mg fa h KX G hmg;refine' My.Bq ok KX G hmg ?n_all ?n_any ?n_bool ?n_enumerate ?n_int ?n_isinstance ?n_len ?n_list ?n_max ?n_min ?n_range ?n_reversed ?n_set ?n_sorted ?n_str ?n_sum ?n_tuple ?n_zip ?a1 ?a2 ?a3 ?a4 ?a5 ?a6 ?a7 ?a8 ?l8 ?c8 ?k8 ?lt8 ?lc8 ?lh8 ?a9 ?a10 ?a13 ?a14 ?a15 ?a16 ?a17 ?a18 ?a19 ?a20 ?a21 ?a22 ?a23 ?a24 ?a25 ?a26 ?a27 ?a28 ?l28 ?c28 ?k28 ?aCYardError ?aCBadTrain ?aCBadMoves ?aCStuck ?aCTrack ?pgTrack ?hdTrack ?poTrack ?saTrack ?naTrack_blind ?naTrack_came ?naTrack_gone_ahead ?aCYard ?pgYard ?hdYard ?poYard ?saYard ?naYard_blind ?naYard_come ?naYard_left ?naYard_tracks ?naYard_wagons ?aCAnswer ?aCShunted ?pgShunted ?hdShunted ?poShunted ?saShunted ?yaShunted ?ynShunted ?ytShunted ?ymShunted ?naShunted_moves ?aCThree ?aCOdd ?pgOdd ?hdOdd ?poOdd ?saOdd ?yaOdd ?ynOdd ?ytOdd ?ymOdd ?naOdd_places ?naOdd_shown ?aCFalling ?aCFewest ?aCGiven ?aCThrice ?aCForest ?pgForest ?hdForest ?poForest ?saForest ?naForest_depths ?naForest_neighbours ?naForest_parents ?aCGroups ?pgGroups ?hdGroups ?poGroups ?saGroups ?naGroups_neighbours ?naGroups_pairs ?naGroups_wagons ?aCShunting ?pgShunting ?hdShunting ?poShunting ?saShunting ?naShunting_gone ?naShunting_leaving ?naShunting_moves ?naShunting_stacks ?naShunting_tracks ?am0 ?xim0 ?xnm0 ?xfm0 ?xkm0 ?am1 ?mkm1 ?ifm1 ?ikm1 ?am2 ?mfm2 ?am3 ?mfm3 ?am4 ?mfm4 ?am6 ?mkm6 ?ifm6 ?ikm6 ?am7 ?mfm7 ?am8 ?mfm8 ?am9 ?mfm9 ?am11 ?mkm11 ?ifm11 ?ikm11 ?am12 ?mfm12 ?am15 ?mkm15 ?ifm15 ?ikm15 ?am16 ?mfm16 ?am25 ?mkm25 ?ifm25 ?ikm25 ?am26 ?mfm26 ?am27 ?mfm27 ?am28 ?mfm28 ?am29 ?mkm29 ?ifm29 ?ikm29 ?am30 ?mfm30 ?am31 ?mfm31 ?am32 ?mfm32 ?am33 ?mkm33 ?ifm33 ?ikm33 ?am34 ?mfm34 ?am35 ?mfm35 ?am36 ?mfm36 ?am37 ?mfm37 ?am38 ?mfm38 ?kitShunted_Answer ?kitShunted_Three ?kitShunted_Odd ?kitShunted_Falling ?kitShunted_Fewest ?kitShunted_Given ?kitShunted_Thrice ?kitOdd_Answer ?kitOdd_Shunted ?kitOdd_Three ?kitOdd_Falling ?kitOdd_Fewest ?kitOdd_Given ?kitOdd_Thrice ?xcmBadMoves ?xchBadMoves ?xcgBadMoves ?xcyBadMoves ?xcsBadMoves ?xcaBadMoves ?xcdBadMoves ?xctBadMoves ?xtyBadMoves ?xcmStuck ?xchStuck ?xcgStuck ?xcyStuck ?xcsStuck ?xcaStuck ?xcdStuck ?xctStuck ?xtyStuck ?xtStuck_at ?mroStuck_BadMoves ?mroStuck_Stuck ?yb1YardError ?yb2YardError ?yb3YardError ?gWORDS ?glWORDS ?H1 ?H2 ?H3 ?H4 ?H5 ?H6 ?H7 ?H9 ?H10 ?H13 ?H14 ?H15 ?H16 ?H17 ?H18 ?H19 ?H20 ?H21 ?H22 ?H23 ?H24 ?H25 ?H26 ?H27 ?Hm0 ?Hm1 ?Hm2 ?Hm3 ?Hm4 ?Hm6 ?Hm7 ?Hm8 ?Hm9 ?Hm11 ?Hm12 ?Hm15 ?Hm16 ?Hm25 ?Hm26 ?Hm27 ?Hm28 ?Hm29 ?Hm30 ?Hm31 ?Hm32 ?Hm33 ?Hm34 ?Hm35 ?Hm36 ?Hm37 ?Hm38
  (case n_all | n_any | n_bool | n_enumerate | n_int | n_isinstance | n_len | n_list | n_max | n_min | n_range | n_reversed | n_set | n_sorted | n_str | n_sum | n_tuple | n_zip | a1 | a2 | a3 | a4 | a5 | a6 | a7 | a8 | l8 | c8 | k8=>first | k_is | kernel_rfl!)
  (case lt8=>first | k_is | kernel_rfl! | exact rfl)
  (case lc8=>first | exact rfl | k_is | kernel_rfl!)
  (case lh8 | a9 | a10 | a13 | a14 | a15 | a16 | a17 | a18 | a19 | a20 | a21 | a22 | a23 | a24 | a25 | a26 | a27 | a28 | l28 | c28 | k28 | aCYardError | aCBadTrain | aCBadMoves | aCStuck | aCTrack | pgTrack | hdTrack | poTrack | saTrack | naTrack_blind | naTrack_came | naTrack_gone_ahead | aCYard | pgYard | hdYard | poYard | saYard | naYard_blind | naYard_come | naYard_left | naYard_tracks | naYard_wagons | aCAnswer | aCShunted | pgShunted | hdShunted | poShunted | saShunted | yaShunted | ynShunted | ytShunted | ymShunted | naShunted_moves | aCThree | aCOdd | pgOdd | hdOdd | poOdd | saOdd | yaOdd | ynOdd | ytOdd | ymOdd | naOdd_places | naOdd_shown | aCFalling | aCFewest | aCGiven | aCThrice | aCForest | pgForest | hdForest | poForest | saForest | naForest_depths | naForest_neighbours | naForest_parents | aCGroups | pgGroups | hdGroups | poGroups | saGroups | naGroups_neighbours | naGroups_pairs | naGroups_wagons | aCShunting | pgShunting | hdShunting | poShunting | saShunting | naShunting_gone | naShunting_leaving | naShunting_moves | naShunting_stacks | naShunting_tracks | am0 | xim0 | xnm0 | xfm0 | xkm0 | am1 | mkm1 | ifm1 | ikm1 | am2 | mfm2 | am3 | mfm3 | am4 | mfm4 | am6 | mkm6 | ifm6 | ikm6 | am7 | mfm7 | am8 | mfm8 | am9 | mfm9 | am11 | mkm11 | ifm11 | ikm11 | am12 | mfm12 | am15 | mkm15 | ifm15 | ikm15 | am16 | mfm16 | am25 | mkm25 | ifm25 | ikm25 | am26 | mfm26 | am27 | mfm27 | am28 | mfm28 | am29 | mkm29 | ifm29 | ikm29 | am30 | mfm30 | am31 | mfm31 | am32 | mfm32 | am33 | mkm33 | ifm33 | ikm33 | am34 | mfm34 | am35 | mfm35 | am36 | mfm36 | am37 | mfm37 | am38 | mfm38 | kitShunted_Answer | kitShunted_Three | kitShunted_Odd | kitShunted_Falling | kitShunted_Fewest | kitShunted_Given | kitShunted_Thrice | kitOdd_Answer | kitOdd_Shunted | kitOdd_Three | kitOdd_Falling | kitOdd_Fewest | kitOdd_Given | kitOdd_Thrice | xcmBadMoves | xchBadMoves | xcgBadMoves | xcyBadMoves | xcsBadMoves | xcaBadMoves | xcdBadMoves | xctBadMoves | xtyBadMoves | xcmStuck | xchStuck | xcgStuck | xcyStuck | xcsStuck | xcaStuck | xcdStuck | xctStuck | xtyStuck | xtStuck_at | mroStuck_BadMoves | mroStuck_Stuck | yb1YardError | yb2YardError | yb3YardError | gWORDS | glWORDS=>first | k_is | kernel_rfl!)
  (case H1 | H2 | H3 | H4 | H5 | H6 | H7 | H9 | H10 | H13 | H14 | H15 | H16 | H17 | H18 | H19 | H20 | H21 | H22 | H23 | H24 | H25 | H26 | H27 | Hm0 | Hm1 | Hm2 | Hm3 | Hm4 | Hm6 | Hm7 | Hm8 | Hm9 | Hm11 | Hm12 | Hm15 | Hm16 | Hm25 | Hm26 | Hm27 | Hm28 | Hm29 | Hm30 | Hm31 | Hm32 | Hm33 | Hm34 | Hm35 | Hm36 | Hm37 | Hm38=>exact My.FF.of (by first | k_is | kernel_rfl!) (by first | k_is | kernel_rfl!) (by first | k_is | kernel_rfl!))
end
open Lean in
private def eP(v:Nat->Syntax)(z:Nat->Syntax)(q:String->Option Syntax):Nat->List String->Nat->Nat->Syntax×List String×Nat×Nat
 | 0,l,i,j=>(.missing,l,i,j)
 | _,[],i,j=>(.missing,[],i,j)
 | k+1,t::l,i,j=>
  let n:=t.front.toNat-48
  if t == "%" then (v i,l,i+1,j)
  else if t == "?" then (.node .none ``Parser.Term.syntheticHole #[mkAtom "?",z j],l,i+1,j+1)
  else if t.front=='=' then
   let (x,r):=eP v z q k l i j
   (.node .none ``Parser.Term.namedArgument #[mkAtom "(",mkIdent (t.drop 1).toName,mkAtom ":=",x,mkAtom ")"],r)
  else if n<10 then
   let (s,r):=n.fold (λ_ _ (s,l,i,j)=>let (x,r):=eP v z q k l i j;(s.push x,r)) (#[],l,i,j)
   (.node .none ``Parser.Term.app #[mkIdent (t.drop 1).toName,.node .none nullKind s],r)
  else ((q t).getD (mkIdent t.toName),l,i,j)
set_option hygiene false
local macro_rules | `(tactic| o_head $t) => do
 let (h,as) <- match t with
  | `(($u))=>match u with
   | `($h:ident $as*)=>pure (h.getId.toString,as)
   | _=>pure ("",#[t])
  | `($h:ident)=>pure (h.getId.toString,#[])
  | `($h:ident $as*)=>pure (h.getId.toString,as)
  | _=>pure ("",#[t])
 let v (i:Nat):=as.getD i t
 let n (x:Lean.Name):Lean.MacroM Lean.Ident:=do return Lean.mkIdent (<- Lean.Macro.addMacroScope x)
 let a <- n `a
 let b <- n `b
 let d <- n `d
 match h with
 | "" => `(tactic| exact pv $t)
 | "V" => `(tactic| (refine' rP rfl (kX (sc := ah $(v 0)) (N := $(v 1)) (cap := $(v 2)) (N' := $(v 3)) rfl rfl ⟨ rfl, by decide +kernel, by decide +kernel, by decide +kernel, rfl, by decide +kernel ⟩) ?$a:ident (fun _ _ _ _ => ?$b:ident) (fun _ _ _ _ => ki) (fun _ _ _ _ => ?$d:ident); (case $a:ident => o_head $(v 4)); (case $b:ident => o_head $(v 5)); (case $d:ident => o_head $(v 6))))
 | "W" => `(tactic| exact nv (i := $(v 0)) (show List.Nodup ($(v 1) : List Str) from by decide +kernel) (by rfl) (by exact Or.inl rfl))
 | "AA" => `(tactic| exact ⟨rfl, rfl, rfl, by decide +kernel, rfl, by decide +kernel, by decide +kernel⟩)
 | "AB" => `(tactic| refine A5 $(v 0) fun f fd F => F.ok $(v 1) (fun vs H Q E h => (by (cases h; subst_vars; rfl))) (fun cdv A outer s H vs Q E hr h => ?_))
 | "AC" => `(tactic| refine kj $(v 0) $(v 1) fun f fd F => F.ok $(v 2) (fun vs H Q E h => (by (cases h; subst_vars; rfl))) (fun cdv A outer s H vs Q E hr h => ?_))
 | "AD" => `(tactic| refine yr $(v 0) $(v 1) fun f fd F => F.ok $(v 2) (fun vs H Q E h => (by (cases h; subst_vars; rfl))) (fun cdv A outer s H vs Q E hr h => ?_))
 | "AE" => `(tactic| (refine' ⟨_, ?$a:ident, ?_⟩; (case $a:ident => have c := $(v 0); o_head $(v 1))))
 | _=>
  let some l:=("a fV|c eu|d aS|e Bx|f uM|g zY|h wZ|i rE|j 2aj ? ?|k 1ax ?|l 2bB ? ?|m 4yj =K K R ? rfl|n 1ku ?|o 5kB =i % c.nd rfl 1Or.inl rfl ?|p 1kg ?|q 3bU ? ? ?|r 4vh % 1hr.mono D rfl ?|s 4ym =K K R ? W|t 5bG 2mL =K K R R T.aI vC ?|u 5bG 2jk =K K R R T.aH nI ?|v 4rH 2AZ =K K R ? ? X|w 1Aa ?|x 2kr ? ?|y 2BI Au ?|z 1AF ?|A 1qf ?|B 5kI HP rfl ? ? ?|C 1PW.pt ?|D 8lg =K K R PySem.F.plainAttrs_list PySem.F.slot_list_append PySem.F.type_list_append mD ? ?|E 2rV R %|F 5rW =K K R ? ? rfl|G 1pV ?|H 2kx ? ?|I 3vm =K K R ?|J 3tf rfl T.aM ?|L 4vi ? % 1hr.mono D ?|M 3tV ? % 1hr.mono D|N 5rX =K K =n % R rfl ?|O 4vj % 1hr.mono D rfl ?|P 2Ac ? ?|Q 1Ab ?|R 3fJ 2gN =K K R ? ?|S 1x6 ?|U 4nv =i % c.nd R O|X 5kB =i % c.nd rfl 1Or.inr rfl ?|Y 3ot HP ? ?|Z 2pW ? ?|xa 6Ak =i % c.nd rfl 1Or.inl rfl ? Al|xc 4u5 2CY =K K R ? ? ?|xd 1Ad ?|xe 3oq ? ? ?|xf 5bG 1tq rfl R T.aK Ce ?|xg 5bG 1tu rfl R T.aL Cd ?|xh 5bG 3tX =K K R R R T.aB Ca ?|xi 5bG 3tW =K K R R R T.aC B9 ?|xj 5bG 3tZ =K K R R R T.aR Cb ?|xk 5bG 2ma =K K R R T.aP vB ?|xl 5dn 2qt =K K R R T.aJ qw ?|xm 5dn tw R T.aG zK ?|xn 5dn jI R T.aM sf ?|xo 3lf rfl T.aG zK|xp 3lf rfl T.aJ qw|xq 3lf rfl T.aD A6|xr 3lf rfl T.aS yt|xs 3lf rfl T.aQ Cf|xt 3fJ Ap ? ?|xu 3fJ Ar ? ?|xv 3fJ w9 ? ?|xw 3fJ rR ? ?|xx 4dS 3vk =K K R U ? ? 1br _|xy 4dS 3qr =K K R U ? ? 1br _|xz 4dS hZ ? ? 1br _|xA 4dS rm ? ? 1br _|xB 4dS zx ? ? 1br _|xC 4dS zy ? ? 1br _|xD 4dS vg ? ? 1br _|xE 4dS rT ? ? 1br _|xF 4bV 3vk =K K R U ? ? 1br _|xG 4bV 3qr =K K R U ? ? 1br _|xH 4bV hZ ? ? 1br _|xI 4bV rm ? ? 1br _|xJ 4bV zx ? ? 1br _|xL 4bV zy ? ? 1br _|xM 4bV vg ? ? 1br _|xN 4bV rT ? ? 1br _|xO 5uR % % ? ? ?|xP 5uQ % % ? ? ?|xQ 2zZ ? ?|xR 1wX ?|xS 7yl =K K R PySem.F.plainAttrs_list PySem.F.slot_list_pop PySem.F.type_list_pop rS ?|xU 8lg =K K R PySem.F.plainAttrs_list PySem.F.slot_list_pop PySem.F.type_list_pop rS ? ?|xV 3tj rfl T.aM ?|xW 5vn =K K R rfl T.aE ?|xX 5yk =K K R rfl T.aT ?|xY 5wB =K K R rfl T.aT ?|xZ 3Ai ? ? u6|ya 4yL 1rM hr ? ? X".splitOn "|").find? (·.startsWith (h ++ " ")) | Lean.Macro.throwUnsupported
  let R <- `((by rfl))
  let D <- `((by decide))
  let U <- `((by exact hr.units))
  let O <- `((by exact Or.inl rfl))
  let W <- `(fun _=>rfl)
  let X <- `(fun _ _=>rfl)
  let H <- `(_)
  let q:String->Option Lean.Syntax
   | "R"=>R
   | "D"=>D
   | "U"=>U
   | "O"=>O
   | "W"=>W
   | "X"=>X
   | "_"=>H
   | _=>none
  let ts:=(l.splitOn " ").tail
  let (x,_):=eP (λi=>v i) (λi=>#[a,b,d].getD i a) q 99 ts 0 0
  let x:Lean.Term:=⟨x⟩
  let ks:=(ts.filter λx=>x == "?"||x == "%").zipIdx.filter (·.1 == "?")
  let cs <- ks.toArray.zipIdx.mapM fun (k, i) => `(tactic| (case $(#[a, b, d].getD i a):ident => o_head $(v k.2)))
  `(tactic| (refine' $x; $cs;*))
set_option hygiene true
namespace My
open PySem L2
def n0(Z:Adr)(H:Hp):Prop:=H Z.aT=some (.tbl dL dM)
def n0.of{H:Hp}(T:Tx K mg Z)(h:qF K pH H):n0 Z H:=h _ _ (vT T.a3)
def n0.same{H H':Hp}(h:n0 Z H)(s:ag H H'):n0 Z H':=s _ _ h
inductive nh(Z:Adr)(vs:List V)(H:Hp)(Q:VK)(u3:XK):Prop
 | mk (a:Addr) (T:List Int):vs=[.ref a]->H a=some (.lst (T.map V.int))->T.length<=199->n0 Z H->(∀(l:Addr) (H':Hp) (ord:List Nat),ag H H'->H l=none->l4 T ord->H' l=some (.lst (au ord))->Q (.ref l) H')->nh Z vs H Q u3
def iK:ak ["wagons"] ["wagons"] (ah ay):=by o_head AA
def iU(T:Tx K mg Z):Ctr P w K mg base CX0 3 "places_in_order" ["wagons"] (nh Z):=by
 refine yG T.a2 λf fd F hc=>F.okC hc iK (λvs H Q E h=>?_) (λA outer s H vs Q E hr h=>?_)
 ·obtain ⟨a,T,rfl,_⟩:=h
  rfl
 ·obtain ⟨a,tr,rfl,ha,hz,hP,k⟩:=h
  refine' {_,?hterm,?_}
  case hterm=>
   refine' ax ?q1
   case' q1=>refine' ku ?q2
   case q2=>
    refine' Bd (k:=0) (P:=Z.aT) (c:=Z.aS) (x := "place") (y := "wagons") (j:=0) uw (by decide) ?q3 (hr.mono (by decide)) rfl (λkin=>PySem.W.codeHd_of_K kin T.a2.hd)
     (kX (sc:=ah ay) (N:=["wagons"]) (cap:=[none,some 0]) (N':=["place", "wagons"]) rfl rfl ⟨rfl,by decide +kernel,by decide +kernel,by decide +kernel,rfl,by decide +kernel⟩) rfl rfl rfl rfl (by rfl) T.aP rfl (λ_ _ _ _ _=>rfl)
    case' q3=>refine' dn jI (by rfl) T.aM sf ?q4
    case' q4=>refine' bB ?q5 fV
    case' q5=>refine' bG (mL (K:=K) (by rfl)) (by rfl) T.aI vC ?q6
    case q6=>exact bB (pv 0) fV
  refine {_,rfl,_,_,rfl,.inl {_,SqL.of ha,rfl},0,_,.inl ⟨rfl,rfl⟩,λr hr'=>{r,a,tr,rfl,?_,rfl,ai ha hr',hz,ai hP hr',λl H' ord s1 hl hord hl'=>k l H' ord ((ag.upd hr').trans s1) ((ag.upd hr').free hl) hord hl'}};rw[aa,length_map]
def grf(wg nb pr:Addr):List (Str×V):=[("wagons",.ref wg),("neighbours",.ref nb),("pairs",.ref pr)]
def lD(wg nb pr:Addr):(grf wg nb pr).lookup ("wagons":Str)=some (.ref wg):=rfl
def dN(wg nb pr:Addr):(grf wg nb pr).lookup ("neighbours":Str)=some (.ref nb):=rfl
def eR(wg nb pr:Addr):(grf wg nb pr).lookup ("pairs":Str)=some (.ref pr):=rfl
def zd(wg nb pr:Addr):aL "pairs" (.ref pr) (aL "neighbours" (.ref nb) (aL "wagons" (.ref wg) []))=grf wg nb pr:=rfl
def n8(wg nb pr:Addr):(grf wg nb pr).lookup ("let_come":Str)=none/\(grf wg nb pr).lookup ("let_leave":Str)=none/\(grf wg nb pr).lookup ("greater":Str)=none:=⟨rfl,rfl,rfl⟩
def PrT(H:Hp)(r:Addr)(x:Nat×Nat):Prop:=H r=some (.tup [.int (x.1:Int),.int (x.2:Int)])
structure Gk(Z:Adr)(H0 H:Hp)(q wg nA pr:Addr)(nbs:List Addr)(T:List Int)(nb:List (List Nat))(ps:List (Nat×Nat)):Prop where
 ins:∃dq,H q=some (.ins Z.aP dq (grf wg nA pr))
 wg0:H0 wg=some (.lst (T.map V.int))
 stk:H nA=some (.lst (nbs.map V.ref))
 len:nbs.length=nb.length
 each:∀(t:Nat) (a:Addr),nbs[t]?=some a->H a=some (.lst (au (nb.getD t [])))/\H0 a=none/\a≠pr/\a≠nA
 apart:∀(t u:Nat) (a b:Addr),nbs[t]?=some a->nbs[u]?=some b->t≠u->a≠b
 prs:∃rs:List Addr,H pr=some (.lst (rs.map V.ref))/\Paired (PrT H) rs ps
 q0:H0 q=none
 k0:H0 nA=none
 m0:H0 pr=none
 ms:pr≠nA
 same:ag H0 H
section
variable {H0 H:Hp} {q wg nA pr:Addr} {nbs:List Addr} {T:List Int} {nb:List (List Nat)} {ps:List (Nat×Nat)}
def Gk.sameH(h:Gk Z H0 H q wg nA pr nbs T nb ps){H':Hp}(e:ag H H'):Gk Z H0 H' q wg nA pr nbs T nb ps:=
 ⟨let ⟨dq,z⟩:=h.ins;⟨dq,e _ _ z⟩,h.wg0,e _ _ h.stk,h.len,λt a z=>let ⟨h1,r⟩:=h.each t a z;⟨e _ _ h1,r⟩,h.apart,let ⟨rs,e1,e2⟩:=h.prs;⟨rs,e _ _ e1,Paired.imp (λ_ _ z=>e _ _ z) e2⟩,h.q0,h.k0,h.m0,h.ms,h.same.trans e⟩
def Gk.setN(h:Gk Z H0 H q wg nA pr nbs T nb ps){t:Nat}{a:Addr}(ha:nbs[t]?=some a)(c:List Nat):Gk Z H0 (upd H a (.lst (au c))) q wg nA pr nbs T (nb.set t c) ps:=by
 obtain ⟨e1,e2,e3,e4⟩:=h.each t a ha;have ht:t<nb.length:=by rw[<- h.len];exact (List.getElem?_eq_some_iff.mp ha).1
 obtain ⟨rs,p1,p2⟩:=h.prs;refine ⟨?_,h.wg0,by rw[ae e4.symm];exact h.stk,by rw[length_set];exact h.len,λu b hb=>?_,h.apart,⟨rs,by rw[ae e3.symm];exact p1,Paired.imp (λr m z=>?_) p2⟩,h.q0,h.k0,h.m0,h.ms,ag.updN h.same e2⟩
 ·obtain ⟨dq,z⟩:=h.ins
  exact ⟨dq,by rw[ae (aN z e1 λw=>by cases w)];exact z⟩
 ·rw[Sh.gc ht]
  obtain ⟨f1,r⟩:=h.each u b hb
  by_cases hu:u=t
  ·subst hu
   have:b=a:=Option.some.inj (hb.symm.trans ha);subst this;rw[if_pos rfl];exact ⟨aa,r⟩
  ·rw[if_neg hu,ae (h.apart u t b a hb ha hu)]
   exact ⟨f1,r⟩
 ·unfold PrT at z ⊢
  rw[ae (aN z e1 λw=>by cases w)];exact z
def Gk.setP(h:Gk Z H0 H q wg nA pr nbs T nb ps){rs':List Addr}{ps':List (Nat×Nat)}(hp:Paired (PrT H) rs' ps'):Gk Z H0 (upd H pr (.lst (rs'.map V.ref))) q wg nA pr nbs T nb ps':=by
 obtain ⟨rs,p1,p2⟩:=h.prs;refine ⟨?_,h.wg0,by rw[ae h.ms.symm];exact h.stk,h.len,λu b hb=>?_,h.apart,{rs',aa,Paired.imp (λr m z=>?_) hp},h.q0,h.k0,h.m0,h.ms,ag.updN h.same h.m0⟩
 ·obtain ⟨dq,z⟩:=h.ins
  exact ⟨dq,by rw[ae (aN z p1 λw=>by cases w)];exact z⟩
 ·obtain ⟨f1,f2,f3,f4⟩:=h.each u b hb
  exact ⟨by rw[ae f3];exact f1,f2,f3,f4⟩
 ·unfold PrT at z ⊢
  rw[ae (aN z p1 λw=>by cases w)];exact z
end
def Paired.unsnoc{α β:Type}{F:α->β->Prop}{l:List α}{m:List β}{b:β}(h:Paired F l (m++[b])):∃l' a,l=l'++[a]/\Paired F l' m/\F a b:=by
 have hl:=Paired.length h;rw[length_append] at hl;have hne:l≠[]:=λz=>by rw[z] at hl;simp at hl
 refine {l.dropLast,l.getLast hne,(List.dropLast_concat_getLast hne).symm,?_,?_}
 ·have:=Paired.take m.length h
  rw[List.take_left'  rfl] at this;rw[List.dropLast_eq_take];simp only[length_cons,length_nil] at hl;rw[show l.length-1=m.length from ()];exact this
 ·simp only[length_cons,length_nil] at hl
  have e:l[m.length]?=some (l.getLast hne):=by rw[<- List.getLast?_eq_some_getLast hne,getLast?_eq_getElem?];congr 1;omega
  obtain ⟨y,e1,e2⟩:=Paired.get h e;rw[getElem?_append_right (Nat.le_refl _),sub_self] at e1;cases e1;exact e2
inductive lE(Z:Adr)(vs:List V)(H:Hp)(Q:VK)(u3:XK):Prop
 | mk (H0:Hp) (q wg nA pr:Addr) (nbs:List Addr) (T:List Int) (nb:List (List Nat)) (ps:List (Nat×Nat)) (a b:Nat):vs=[.ref q,.int (a:Int),.int (b:Int)]->Gk Z H0 H q wg nA pr nbs T nb ps->a<T.length->b<T.length->Q (.int ((Gp.gr T a b:Nat):Int)) H->lE Z vs H Q u3
def d4:ak ["self", "one", "other"] ["self", "one", "other"] (ah cz):=by o_head AA
def ni(T:Tx K mg Z):df P w K mg base CX0 1 Z.aP "greater" ["self", "one", "other"] (lE Z):=by
 o_head (AC T.c8 T.eA d4)
 obtain ⟨H0,q,wg,nA,pr,nbs,tr,nb,ps,a,b,rfl,hG,ha,hb,kQ⟩:=h
 o_head (AE d4 (k (n (xe (xJ (v (m 0) 1) (v (m 0) 2)) 1 2))))
 obtain ⟨dq,hq⟩:=hG.ins;have hw:=hG.same _ _ hG.wg0;have ix:∀{p:Nat},p<tr.length->(tr.map V.int)[p]?=some (.int (tr.getD p 0)):=λ{p} hp=>by
  rw[getElem?_map,List.getElem?_eq_getElem hp,getD_eq_getElem?_getD,List.getElem?_eq_getElem hp];rfl
 refine {_,rfl,q,_,dq,_,_,rfl,hq,T.c8,T.dB,lD _ _ _,_,rfl,.inl {wg,_,(a:Int),_,rfl,rfl,SqL.of hw,am (ix ha),?_}};refine {_,rfl,q,_,dq,_,_,rfl,hq,T.c8,T.dB,lD _ _ _,_,rfl,.inl {wg,_,(b:Int),_,rfl,rfl,SqL.of hw,am (ix hb),?_}};refine {_,_,rfl,rfl,_,rfl,?_};unfold Gp.gr at kQ
 by_cases hgt:tr.getD a 0>tr.getD b 0
 ·rw[if_pos hgt] at kQ
  exact dX hgt {_,rfl,kQ}
 ·rw[if_neg hgt] at kQ
  exact dB hgt {_,rfl,kQ}
inductive jN(Z:Adr)(vs:List V)(H:Hp)(Q:VK)(u3:XK):Prop
 | mk (H0:Hp) (q wg nA pr:Addr) (nbs:List Addr) (T:List Int) (nb:List (List Nat)) (ps:List (Nat×Nat)) (i:Nat):vs=[.ref q,.int (i:Int)]->Gk Z H0 H q wg nA pr nbs T nb ps->ps.length<=1000->(∀H',Gk Z H0 H' q wg nA pr nbs T nb (ps++[(i,i)])->Q .non H')->jN Z vs H Q u3
def dO:ak ["self", "place"] ["self", "place"] (ah bZ):=by o_head AA
def qN(T:Tx K mg Z):df P w K mg base CX0 1 Z.aP "let_come" ["self", "place"] (jN Z):=by
 o_head (AC T.c8 T.d8 dO)
 obtain ⟨H0,q,wg,nA,pr,nbs,tr,nb,ps,i,rfl,hG,hl,kQ⟩:=h
 o_head (AE dO (k (p (D (m 0) (l (A (l 1 (l 1 a))) a)))))
 obtain ⟨dq,hq⟩:=hG.ins;obtain ⟨rs,p1,p2⟩:=hG.prs;refine {_,rfl,q,_,dq,_,_,rfl,hq,T.c8,T.dA,eR _ _ _,.inl {rfl,_,SqL.of p1},?_};refine ⟨_,rfl,_,rfl,(by show 2<=sizeLine;decide),λt ht=>⟨pr,_,_,rfl,rfl,ai p1 ht,?_,?_⟩⟩
 ·rw[length_map,Paired.length p2]
  exact al ()
 have s1:=ag.upd (o:=.tup [.int (i:Int),.int (i:Int)]) ht;have h2:=(hG.sameH s1).setP (rs':=rs++[t]) (ps':=ps++[(i,i)]) (Paired.snoc' (Paired.imp (λ_ _ z=>s1 _ _ z) p2) aa);rw[map_append] at h2;exact kQ _ h2
inductive iV(Z:Adr)(vs:List V)(H:Hp)(Q:VK)(u3:XK):Prop
 | mk (H0:Hp) (q wg nA pr:Addr) (nbs:List Addr) (T:List Int) (nb nb':List (List Nat)) (ps rp':List (Nat×Nat)) (i:Nat):vs=[.ref q,.int (i:Int)]->Gk Z H0 H q wg nA pr nbs T nb ps->i<T.length->nb.length=T.length->(∀x∈ps,x.2<T.length)->(∀a,(nb.getD a []).length+2*ps.length<=1000)->Gp.leave T i ps.reverse nb i=some (nb',rp')->(∀H',Gk Z H0 H' q wg nA pr nbs T nb' rp'.reverse->Q .non H')->iV Z vs H Q u3
def da:ak ["self", "place", "greatest", "other", "own"] ["self", "place"] (ah bQ):=by o_head AA
def pI(T:Tx K mg Z):df P w K mg base CX0 2 Z.aP "let_leave" ["self", "place"] (iV Z):=by
 o_head (AC T.c8 T.d9 da)
 obtain ⟨H0,q,wg,nA,pr,nbs,tr,nb,nb',ps,rp',i,rfl,hG,hi,hnl,hps,hb,hlv,kQ⟩:=h
 o_head (AE da (j (o 2 1) (j (Y (xJ (v (v (m 0) (y c)) c) 1) (j (o 3 (v (xS (m 0)) c)) (j (p (D (v (m 0) 1) (l 3 a))) (j (p (D (v (m 0) 3) (l 1 a))) (k (o 2 (L 0 (ni T) (l 2 (l 3 a))))))))) (j (o 4 (xS (m 0))) (j (o 2 (L 0 (ni T) (l 2 (l (v 4 c) a)))) (k (q (xG 2 1) (k (p (D (m 0) (l (A (l (v 4 c) (l 2 a))) a)))) d)))))))
 refine {_,rfl,?_}
 let Iw1:Nat->St->Hp->Prop:=λm σ H1=>∃(n1:List (List Nat)) (p1:List (Nat×Nat)) (g1:Nat) (v3 v4:Option V),m=p1.length/\σ=[some (.ref q),some (.int (i:Int)),some (.int (g1:Int)),v3,v4]/\Gk Z H0 H1 q wg nA pr nbs tr n1 p1/\n1.length=tr.length/\g1<tr.length/\(∀x∈p1,x.2<tr.length)/\(∀a,(n1.getD a []).length+2*p1.length<=1000)/\Gp.leave tr i p1.reverse n1 g1=some (nb',rp')
 refine ⟨Iw1,
  ⟨_,nb,ps,i,none,none,rfl,rfl,hG,hnl,hi,hps,hb,hlv⟩,?_⟩
 rintro m σ H1 ⟨n1,p1,g1,v3,v4,rfl,rfl,hG1,hn1,hg1,hp1,hb1,hl1⟩;obtain ⟨dq,hq⟩:=hG1.ins;rcases List.eq_nil_or_concat p1 with rfl | ⟨r,x,rfl⟩
 ·cases hl1
 rw[List.concat_eq_append] at*;rw[List.reverse_append] at hl1;change Gp.leave tr i (x::r.reverse) n1 g1=some (nb',rp') at hl1;unfold Gp.leave at hl1;obtain ⟨rs,q1,q2⟩:=hG1.prs;obtain ⟨rs',rl,rfl,q3,q4⟩:=Paired.unsnoc q2;have hx2:=hp1 x (by simp);refine ⟨_,rfl,q,_,dq,_,_,rfl,hq,T.c8,T.dA,eR _ _ _,1,rfl,.inl ⟨pr,_,-1,.ref rl,rfl,rfl,SqL.of q1,by rw[map_append];exact kP _ _,?_⟩⟩;refine .inr {rl,_,0,.int (x.1:Int),rfl,rfl,SqT.of q4,rfl,?_};refine {_,rfl,_,_,rfl,rfl,_,rfl,?_}
 by_cases hlt:i<x.1
 ·rw[if_pos hlt] at hl1
  refine dX () ?_;refine {λσ' H'=>∃m',m'<(r++[x]).length/\∃(n1:List (List Nat)) (p1:List (Nat×Nat)) (g1:Nat) (v3 v4:Option V),m'=p1.length/\σ'=[some (.ref q),some (.int (i:Int)),some (.int (g1:Int)),v3,v4]/\Gk Z H0 H' q wg nA pr nbs tr n1 p1/\n1.length=tr.length/\g1<tr.length/\(∀x∈p1,x.2<tr.length)/\(∀a,(n1.getD a []).length+2*p1.length<=1000)/\Gp.leave tr i p1.reverse n1 g1=some (nb',rp'),λσ' H' z=>z,?_};refine {_,rfl,q,_,dq,_,_,rfl,hq,T.c8,T.dA,eR _ _ _,.inl {rfl,_,SqL.of q1},.inl {pr,_,.ref rl,rfl,rfl,q1,?_,?_}}
  ·rw[map_append];simp
  rw[map_append,map_cons,map_nil,dropLast_concat];have hG2:=hG1.setP q3;have q5:upd H1 pr (.lst (rs'.map V.ref)) rl=some (.tup [.int (x.1:Int),.int (x.2:Int)]):=by
   rw[ae (aN q4 q1 λw=>by cases w)];exact q4
  refine .inr {rl,_,1,.int (x.2:Int),rfl,rfl,SqT.of q5,rfl,?_};obtain ⟨dq2,hq2⟩:=hG2.ins;obtain ⟨a1,ea1⟩:∃a,nbs[i]?=some a:=⟨_,List.getElem?_eq_getElem (by rw[hG1.len,hn1];exact hi)⟩;obtain ⟨e1,_⟩:=hG2.each _ a1 ea1;refine ⟨_,rfl,q,_,dq2,_,_,rfl,hq2,T.c8,T.c9,dN _ _ _,_,rfl,.inl ⟨nA,_,(i:Int),.ref a1,rfl,rfl,SqL.of hG2.stk,am (by rw[getElem?_map,ea1];rfl),?_⟩⟩;have hb2:=hb1 i;rw[length_append] at hb2;simp only[length_cons,length_nil] at hb2;refine ⟨.inl {rfl,_,SqL.of e1},_,rfl,a1,_,_,rfl,rfl,e1,by rw[length_map];exact al (),?_⟩;have eap:∀(c:List Nat) (y:Nat),au c++[V.int (y:Int)]=au (c++[y]):=λc y=>by
   show _=List.map (λ(p:Nat)=>V.int (p:Int)) (c++[y]);rw[map_append];rfl
  rw[eap];have hG3:=hG2.setN ea1 (n1.getD i []++[x.2]);change Gk Z H0 _ q wg nA pr nbs tr (Gp.put n1 i x.2) r at hG3;obtain ⟨dq3,hq3⟩:=hG3.ins;obtain ⟨a2,ea2⟩:∃a,nbs[x.2]?=some a:=⟨_,List.getElem?_eq_getElem (by rw[hG1.len,hn1];exact hx2)⟩;obtain ⟨e2,_⟩:=hG3.each _ a2 ea2;have hb3:=Gp.kq (nb:=n1) (i:=i) () x.2 x.2;have hb4:=hb1 x.2;rw[length_append] at hb4;simp only[length_cons,length_nil] at hb4;have hb5:((Gp.put n1 i x.2).getD x.2 []).length<=1000:=by
   rw[hb3]
   split
   ·rw[length_append];simp only[length_cons,length_nil];omega
   ·omega
  refine ⟨_,rfl,q,_,dq3,_,_,rfl,hq3,T.c8,T.c9,dN _ _ _,_,rfl,.inl ⟨nA,_,(x.2:Int),.ref a2,rfl,rfl,SqL.of hG3.stk,am (by rw[getElem?_map,ea2];rfl),?_⟩⟩;refine ⟨.inl {rfl,_,SqL.of e2},_,rfl,a2,_,_,rfl,rfl,e2,by rw[length_map];exact al (),?_⟩;rw[eap];have hG4:=hG3.setN ea2 ((Gp.put n1 i x.2).getD x.2 []++[i]);change Gk Z H0 _ q wg nA pr nbs tr (Gp.me n1 i x.2) r at hG4;obtain ⟨dq4,hq4⟩:=hG4.ins;refine {_,rfl,q,dq4,_,rfl,hq4,(n8 _ _ _).2.2,_,rfl,_,rfl,H0,q,wg,nA,pr,nbs,tr,_,r,g1,x.2,rfl,hG4,hg1,hx2,?_};refine ⟨r.length,by rw[length_append];simp,Gp.me n1 i x.2,r,Gp.gr tr g1 x.2,_,_,rfl,rfl,hG4,by unfold Gp.me;rw[Gp.gU,Gp.gU];exact hn1,?_,λy hy=>hp1 y (mem_append_left _ hy),λa=>?_,hl1⟩
  ·rcases Gp.sv tr g1 x.2 with z | z<;>rw[z]
   ·exact hg1
   ·exact hx2
  ·have:=Gp.sx (nb:=n1) (p:=i) (o:=x.2) () () (m:=1000-2*(r.length+1)) (λa=>by have:=hb1 a;rw[length_append] at this;simp only[length_cons,length_nil] at this;omega) a
   omega
 ·rw[if_neg hlt] at hl1
  refine dB () ?_;refine {_,rfl,q,_,dq,_,_,rfl,hq,T.c8,T.dA,eR _ _ _,.inl {rfl,_,SqL.of q1},.inl {pr,_,.ref rl,rfl,rfl,q1,?_,?_}}
  ·rw[map_append];simp
  rw[map_append,map_cons,map_nil,dropLast_concat];have hG2:=hG1.setP q3;have q5:upd H1 pr (.lst (rs'.map V.ref)) rl=some (.tup [.int (x.1:Int),.int (x.2:Int)]):=by
   rw[ae (aN q4 q1 λw=>by cases w)];exact q4
  obtain ⟨dq2,hq2⟩:=hG2.ins;refine {_,rfl,q,dq2,_,rfl,hq2,(n8 _ _ _).2.2,_,rfl,_,rfl,.inr {rl,_,1,.int (x.2:Int),rfl,rfl,SqT.of q5,rfl,?_}};refine {H0,q,wg,nA,pr,nbs,tr,_,r,g1,x.2,rfl,hG2,hg1,hx2,?_};generalize hg2:Gp.gr tr g1 x.2=g2 at hl1 ⊢;refine {_,rfl,_,rfl,.inl {rfl,_,rfl,?_}};cases hl1
  by_cases hg:g2=i
  ·rw[if_pos hg] at kQ
   refine fX (by rw[hg]) ?_;refine kQ _ ?_;rw[List.reverse_reverse];exact hG2
  ·rw[if_neg hg] at kQ
   refine sd (λz=>hg (by have:=V.int.inj z;omega)) ?_;obtain ⟨rs2,f1,f2⟩:=hG2.prs;refine {_,rfl,q,_,dq2,_,_,rfl,hq2,T.c8,T.dA,eR _ _ _,.inl {rfl,_,SqL.of f1},?_};refine {_,rfl,.inr {rl,_,0,.int (x.1:Int),rfl,rfl,SqT.of q5,rfl,?_}};refine ⟨_,rfl,(by show 2<=sizeLine;decide),λt ht=>⟨pr,_,_,rfl,rfl,ai f1 ht,?_,?_⟩⟩
   ·rw[length_map,Paired.length f2]
    have:=hb1 0;rw[length_append] at this;exact al ()
   have s1:=ag.upd (o:=.tup [.int (x.1:Int),.int (g2:Int)]) ht;have h2:=(hG2.sameH s1).setP (rs':=rs2++[t]) (ps':=r++[(x.1,g2)]) (Paired.snoc' (Paired.imp (λ_ _ z=>s1 _ _ z) f2) aa);rw[map_append] at h2;refine kQ _ ?_;rw[reverse_cons,List.reverse_reverse];exact h2
inductive gq(Z:Adr)(vs:List V)(H:Hp)(Q:VK)(u3:XK):Prop
 | mk (p dx wg:Addr) (T:List Int):vs=[.ref p,.ref wg]->H p=some (.ins Z.aP dx [])->H wg=some (.lst (T.map V.int))->T.length<=1000->(∀(nA pr:Addr) (nbs:List Addr) (H':Hp),(∀c o,H c=some o->c≠p->H' c=some o)->H' p=some (.ins Z.aP dx (grf wg nA pr))->H' nA=some (.lst (nbs.map V.ref))->nbs.length=T.length->(∀(t:Nat) (a:Addr),nbs[t]?=some a->H' a=some (.lst [])/\H a=none/\a≠pr/\a≠nA)->(∀(t u:Nat) (a b:Addr),nbs[t]?=some a->nbs[u]?=some b->t≠u->a≠b)->H' pr=some (.lst [])->H nA=none->H pr=none->pr≠nA->Q .non H')->gq Z vs H Q u3
def gu:ak ["self", "wagons"] ["self", "wagons"] (ah cK):=by o_head AA
def wG(T:Tx K mg Z):nE P w K mg base CX0 1 "Groups" Z.aP ["self", "wagons"] (gq Z):=by
 o_head (AD T.c7 T.d7 gu)
 obtain ⟨p,dx,wg,tr,rfl,hp,hw,hm,k⟩:=h
 o_head (AE gu (j (F 0 1) (j (F 0 (V cK ["self", "wagons"] [none] ["wagon"] (I 1) (W 0 ["wagon"]) (z a))) (k (F 0 (z a))))))
 have hwp:wg≠p:=aN hw hp λw=>by cases w
 refine ⟨_,rfl,_,rfl,p,_,dx,_,rfl,hp,T.c8,T.dB,(by show 0<1000;decide),?_⟩;generalize hH1:upd H p (.ins Z.aP dx (aL "wagons" (.ref wg) []))=H1;have hp1:H1 p=some (.ins Z.aP dx (aL "wagons" (.ref wg) [])):=by rw[<- hH1];exact aa
 have hw1:H1 wg=some (.lst (tr.map V.int)):=by rw[<- hH1,ae hwp];exact hw
 have oth:∀c o,H c=some o->c≠p->H1 c=some o:=λc o e hc=>by rw[<- hH1,ae hc];exact e
 have fre:∀c,H1 c=none->H c=none:=λc e=>by
  have hc:c≠p:=λz=>by rw[z,hp1] at e;cases e
  rw[<- hH1,ae hc] at e;exact e
 refine {_,rfl,wg,rfl,{_,SqL.of hw1},λsk hsk=>?_}
 let Iv1:Nat->St->Hp->Prop:=λi σ H2=>(∃v,σ=[v])/\ag H1 H2/\∃sks:List Addr,sks.length=i/\H2 sk=some (.lst (sks.map V.ref))/\(∀(t:Nat) (a:Addr),sks[t]?=some a->H2 a=some (.lst [])/\H1 a=none/\a≠sk)/\∀(t u:Nat) (a b:Addr),sks[t]?=some a->sks[u]?=some b->t≠u->a≠b
 refine bf (K:=K) (a:=wg) (xs:=tr.map V.int) Iv1
  ⟨⟨_,rfl⟩,ag.upd hsk,[],rfl,aa,λt a e=>by simp at e,λt u a b e=>by simp at e⟩ (λi σ H2 _ h=>SqL.of (h.2.1 _ _ hw1)) ?_ ?_
 ·rintro i x σ H2 hx ⟨⟨v,rfl⟩,s2,sks,hl,h1,h2,h3⟩
  have hi:i<tr.length:=by have:=(List.getElem?_eq_some_iff.mp hx).1;rw[length_map] at this;exact this
  refine {zero_le _,λu hu=>?_};have esu:sk≠u:=af h1 hu;refine ⟨_,ai h1 hu,?_,{_,rfl},ag.updN (s2.trans (ag.upd hu)) hsk,sks++[u],by simp[hl],?_,λt a e=>?_,λt t' a b e e' ne=>?_⟩
  ·rw[length_map,hl]
   exact aw ()
  ·rw[aa,map_append]
   rfl
  ·rcases Thr.eQ e with ⟨_,e⟩ | ⟨_,rfl⟩
   ·obtain ⟨z1,z2,z3⟩:=h2 t a e
    exact ⟨by rw[ae z3];exact ai z1 hu,z2,z3⟩
   ·exact ⟨by rw[ae esu.symm,aa],s2.free hu,esu.symm⟩
  ·rcases Thr.eQ e with ⟨_,e1⟩ | ⟨i1,e1⟩<;>rcases Thr.eQ e' with ⟨_,e2⟩ | ⟨i2,e2⟩
   ·exact h3 t t' a b e1 e2 ne
   ·rw[e2];exact af (h2 t a e1).1 hu
   ·rw[e1];exact (af (h2 t' b e2).1 hu).symm
   ·omega
 ·rintro σ H2 ⟨_,s2,sks,hl,h1,h2,h3⟩
  rw[length_map] at hl;have hp2:=s2 _ _ hp1;refine ⟨_,rfl,p,_,dx,_,rfl,hp2,T.c8,T.c9,(by show 1<1000;decide),?_⟩;refine {zero_le _,λmv hmv=>?_};have npm:p≠mv:=af aa hmv;have hm2:H2 mv=none:=by rw[ae npm.symm] at hmv;exact hmv
  refine ⟨_,rfl,p,_,dx,_,rfl,by rw[ae npm,aa],T.c8,T.dA,(by show 2<1000;decide),?_⟩;rw[zd];have nps:p≠sk:=af hp1 hsk;refine k sk mv sks _ (λc o e hc=>?_) aa ?_ hl (λt a e=>?_) h3 ?_ (fre _ hsk) (fre _ (s2.free hm2)) (af h1 hm2).symm
  ·have z:=s2 _ _ (oth c o e hc)
   rw[ae hc,ae (af z hm2),ae hc];exact z
  ·rw[ae nps.symm,ae (af h1 hm2),ae nps.symm]
   exact h1
  ·obtain ⟨z1,z2,z3⟩:=h2 t a e
   have nam:a≠mv:=af z1 hm2;have nap:a≠p:=(af hp1 z2).symm;exact ⟨by rw[ae nap,ae nam,ae nap];exact z1,fre _ z2,nam,z3⟩
  ·rw[ae npm.symm,aa]
def fof(nA dA pA:Addr):List (Str×V):=[("neighbours",.ref nA),("depths",.ref dA),("parents",.ref pA)]
def gv(nA dA pA:Addr):(fof nA dA pA).lookup ("neighbours":Str)=some (.ref nA):=rfl
def bz(nA dA pA:Addr):(fof nA dA pA).lookup ("depths":Str)=some (.ref dA):=rfl
def gw(nA dA pA:Addr):(fof nA dA pA).lookup ("parents":Str)=some (.ref pA):=rfl
def ze(nA dA pA:Addr):aL "parents" (.ref pA) (aL "depths" (.ref dA) (aL "neighbours" (.ref nA) []))=fof nA dA pA:=rfl
def qO(nA dA pA:Addr):(fof nA dA pA).lookup ("grow":Str)=none/\(fof nA dA pA).lookup ("grow_from":Str)=none/\(fof nA dA pA).lookup ("path":Str)=none:=⟨rfl,rfl,rfl⟩
structure Fk(Z:Adr)(H0 H:Hp)(q nA dA pA:Addr)(nbs:List Addr)(nb:List (List Nat))(dep par:List Int):Prop where
 ins:∃dq,H q=some (.ins Z.aO dq (fof nA dA pA))
 stk:H0 nA=some (.lst (nbs.map V.ref))
 len:nbs.length=nb.length
 each:∀(t:Nat) (a:Addr),nbs[t]?=some a->H0 a=some (.lst (au (nb.getD t [])))
 d:H dA=some (.lst (dep.map V.int))
 p:H pA=some (.lst (par.map V.int))
 q0:H0 q=none
 d0:H0 dA=none
 p0:H0 pA=none
 dp:dA≠pA
 same:ag H0 H
section
variable {H0 H:Hp} {q nA dA pA:Addr} {nbs:List Addr} {nb:List (List Nat)} {dep par:List Int}
def Fk.sameH(h:Fk Z H0 H q nA dA pA nbs nb dep par){H':Hp}(e:ag H H'):Fk Z H0 H' q nA dA pA nbs nb dep par:=
 ⟨let ⟨dq,z⟩:=h.ins;⟨dq,e _ _ z⟩,h.stk,h.len,h.each,e _ _ h.d,e _ _ h.p,h.q0,h.d0,h.p0,h.dp,h.same.trans e⟩
def Fk.setD(h:Fk Z H0 H q nA dA pA nbs nb dep par)(dep':List Int):Fk Z H0 (upd H dA (.lst (dep'.map V.int))) q nA dA pA nbs nb dep' par:=
 ⟨let ⟨dq,z⟩:=h.ins;⟨dq,by rw[ae (aN z h.d λw=>by cases w)];exact z⟩,h.stk,h.len,h.each,aa,by rw[ae h.dp.symm];exact h.p,h.q0,h.d0,h.p0,h.dp,ag.updN h.same h.d0⟩
def Fk.setP(h:Fk Z H0 H q nA dA pA nbs nb dep par)(par':List Int):Fk Z H0 (upd H pA (.lst (par'.map V.int))) q nA dA pA nbs nb dep par':=
 ⟨let ⟨dq,z⟩:=h.ins;⟨dq,by rw[ae (aN z h.p λw=>by cases w)];exact z⟩,h.stk,h.len,h.each,by rw[ae h.dp];exact h.d,aa,h.q0,h.d0,h.p0,h.dp,ag.updN h.same h.p0⟩
def Fk.setX(h:Fk Z H0 H q nA dA pA nbs nb dep par){a:Addr}{xs ys:List V}(ha:H a=some (.lst xs))(h0:H0 a=none)(h1:a≠dA)(h2:a≠pA):Fk Z H0 (upd H a (.lst ys)) q nA dA pA nbs nb dep par:=
 ⟨let ⟨dq,z⟩:=h.ins;⟨dq,by rw[ae (aN z ha λw=>by cases w)];exact z⟩,h.stk,h.len,h.each,by rw[ae h1.symm];exact h.d,by rw[ae h2.symm];exact h.p,h.q0,h.d0,h.p0,h.dp,ag.updN h.same h0⟩
end
def Cy(n:Nat)(z:Int):(List.replicate n [V.int z]).flatten=(List.replicate n z).map V.int:=by
 rw[map_replicate]
 induction n with
 | zero=>rfl
 | succ n ih=>rw[replicate_succ,flatten_cons,ih,replicate_succ];rfl
inductive gy(Z:Adr)(vs:List V)(H:Hp)(Q:VK)(u3:XK):Prop
 | mk (p dx nA:Addr) (xs:List V):vs=[.ref p,.ref nA]->H p=some (.ins Z.aO dx [])->H nA=some (.lst xs)->xs.length<=1000->(∀(dA pA:Addr) (H':Hp),(∀c o,H c=some o->c≠p->H' c=some o)->H' p=some (.ins Z.aO dx (fof nA dA pA))->H' dA=some (.lst ((List.replicate xs.length (-1:Int)).map V.int))->H' pA=some (.lst ((List.replicate xs.length (-1:Int)).map V.int))->H dA=none->H pA=none->dA≠pA->Q .non H')->gy Z vs H Q u3
def gA:ak ["self", "neighbours"] ["self", "neighbours"] (ah eC):=by o_head AA
def wH(T:Tx K mg Z):nE P w K mg base CX0 1 "Forest" Z.aO ["self", "neighbours"] (gy Z):=by
 o_head (AD T.c2 T.d3 gA)
 obtain ⟨p,dx,nA,xs,rfl,hp,hn,hm,k⟩:=h
 o_head (AE gA (j (F 0 1) (j (F 0 (xw (z (l (y c) a)) (t (l 1 a)))) (k (F 0 (xw (z (l (y c) a)) (t (l 1 a))))))))
 have hnp:nA≠p:=aN hn hp λw=>by cases w
 refine ⟨_,rfl,_,rfl,p,_,dx,_,rfl,hp,T.c3,T.c5,(by show 0<1000;decide),?_⟩;generalize hH1:upd H p (.ins Z.aO dx (aL "neighbours" (.ref nA) []))=H1;have hp1:H1 p=some (.ins Z.aO dx (aL "neighbours" (.ref nA) [])):=by rw[<- hH1];exact aa
 have hn1:H1 nA=some (.lst xs):=by rw[<- hH1,ae hnp];exact hn
 have oth:∀c o,H c=some o->c≠p->H1 c=some o:=λc o e hc=>by rw[<- hH1,ae hc];exact e
 have fre:∀c,H1 c=none->H c=none:=λc e=>by
  have hc:c≠p:=λz=>by rw[z,hp1] at e;cases e
  rw[<- hH1,ae hc] at e;exact e
 have hnat:((xs.length:Nat):Int).toNat=xs.length:=toNat_natCast _;refine ⟨1,rfl,(by show 1<=sizeLine;decide),λe he=>?_⟩;refine ⟨_,rfl,_,_,rfl,.inl {_,SqL.of (ai hn1 he),rfl},.inr ⟨e,_,_,rfl,rfl,aa,(),(),Nat.le_of_lt (al (by show 1*_<=_;omega)),λl hl=>?_⟩⟩;rw[hnat,Cy];have s1:=(ag.upd (o:=.lst [.int (-1)]) he).trans (ag.upd (o:=.lst ((List.replicate xs.length (-1:Int)).map V.int)) hl);have hl1:=(ag.upd (o:=.lst [.int (-1)]) he).free hl;refine ⟨_,rfl,p,_,dx,_,rfl,s1 _ _ hp1,T.c3,T.c4,(by show 1<1000;decide),?_⟩;generalize hH2:upd (upd H1 e (.lst [.int (-1)])) l (.lst ((List.replicate xs.length (-1:Int)).map V.int))=H2
 change upd (upd H1 e (.lst [.int (-1)])) l _=H2 at hH2;have s2:ag H1 H2:=hH2▸s1;have hl2:H2 l=some (.lst ((List.replicate xs.length (-1:Int)).map V.int)):=by rw[<- hH2];exact aa
 have npl:l≠p:=(af hp1 hl1).symm;have hn2:upd H2 p (.ins Z.aO dx (aL "depths" (.ref l) (aL "neighbours" (.ref nA) []))) nA=some (.lst xs):=by rw[ae hnp];exact s2 _ _ hn1
 refine ⟨1,rfl,(by show 1<=sizeLine;decide),λe' he'=>?_⟩;refine ⟨_,rfl,_,_,rfl,.inl {_,SqL.of (ai hn2 he'),rfl},.inr ⟨e',_,_,rfl,rfl,aa,(),(),Nat.le_of_lt (al (by show 1*_<=_;omega)),λl' hl'=>?_⟩⟩;rw[hnat,Cy];have s3:=(ag.upd (o:=.lst [.int (-1)]) he').trans (ag.upd (o:=.lst ((List.replicate xs.length (-1:Int)).map V.int)) hl');have hl3:=(ag.upd (o:=.lst [.int (-1)]) he').free hl';have npl':l'≠p:=λz=>by rw[z,aa] at hl3;cases hl3
 have hl4:H2 l'=none:=by rw[ae npl'] at hl3;exact hl3
 refine ⟨_,rfl,p,_,dx,_,rfl,s3 _ _ aa,T.c3,T.c6,(by show 2<1000;decide),?_⟩;rw[ze];refine k l l' _ (λc o z hc=>?_) aa ?_ ?_ (fre _ hl1) (fre _ (s2.free hl4)) (af hl2 hl4)
 ·rw[ae hc]
  refine s3 _ _ ?_;rw[ae hc];exact s2 _ _ (oth c o z hc)
 ·rw[ae npl]
  refine s3 _ _ ?_;rw[ae npl];exact hl2
 ·rw[ae npl',aa]
def lF{l:List Int}{p:Nat}(h:p<l.length):(l.map V.int)[p]?=some (.int (Gp.gD l p)):=by
 rw[getElem?_map,List.getElem?_eq_getElem h];show _=some (V.int (l.getD p (-1)));rw[getD_eq_getElem?_getD,List.getElem?_eq_getElem h];rfl
def ba(c:List Nat)(y:Nat):au c++[V.int (y:Int)]=au (c++[y]):=by
 show _=List.map (λ(p:Nat)=>V.int (p:Int)) (c++[y]);rw[map_append];rfl
inductive iW(Z:Adr)(vs:List V)(H:Hp)(Q:VK)(u3:XK):Prop
 | mk (H0:Hp) (q nA dA pA:Addr) (nbs:List Addr) (nb:List (List Nat)) (dep par:List Int) (n root:Nat) (rt:Nat->Nat):vs=[.ref q,.int (root:Int)]->Fk Z H0 H q nA dA pA nbs nb dep par->Gp.Nbs nb n->n<=200->Gp.W nb n root dep par [root] [] [] rt->dep.count (-1)+1<=n->(∀(dep' par':List Int) (rt':Nat->Nat) (H':Hp),Fk Z H0 H' q nA dA pA nbs nb dep' par'->Gp.W nb n root dep' par' [] [] [] rt'->Gp.Ext dep dep'->Q .non H')->iW Z vs H Q u3
def db:ak ["self", "root", "reached", "place", "other"] ["self", "root"] (ah bP):=by o_head AA
def pJ(T:Tx K mg Z):df P w K mg base CX0 1 Z.aO "grow_from" ["self", "root"] (iW Z):=by
 o_head (AC T.c3 T.d5 db)
 obtain ⟨H0,q,nA,dA,pA,nbs,nb,dep,par,n,root,rt,rfl,hF,hN,hn,hW,hc,kQ⟩:=h
 o_head (AE db (j (o 2 (z (l 1 a))) (k (Y (s 2) (j (o 3 (xS 2)) (k (B (I (v (m 0) 3)) (U 4) (k (q (xF (v (m 0) 4) (y c)) (j (Z (R (v (m 0) 3) c) (xZ (m 0) 4)) (j (Z 3 (xZ (m 0) 4)) (k (p (D 2 (l 4 a)))))) d)))))))))
 refine ⟨_,rfl,(by show 1<=sizeLine;decide),λl hl=>?_⟩;have hl0:H0 l=none:=hF.same.free hl;have hld:l≠dA:=(af hF.d hl).symm;have hlp:l≠pA:=(af hF.p hl).symm
 let Iw3:Nat->St->Hp->Prop:=λm σ H1=>∃(dep1 par1:List Int) (st:List Nat) (rt1:Nat->Nat) (v3 v4:Option V),m=dep1.count (-1)+st.length/\σ=[some (.ref q),some (.int (root:Int)),some (.ref l),v3,v4]/\Fk Z H0 H1 q nA dA pA nbs nb dep1 par1/\H1 l=some (.lst (au st))/\Gp.W nb n root dep1 par1 st [] [] rt1/\Gp.Ext dep dep1/\dep1.count (-1)+st.length<=n
 refine ⟨Iw3,
  ⟨_,dep,par,[root],rt,none,none,rfl,rfl,hF.sameH (ag.upd hl),aa,hW,λ_ z=>z,hc⟩,?_⟩
 rintro m σ H1 ⟨dep1,par1,st,rt1,v3,v4,rfl,rfl,hF1,hl1,hW1,hE1,hc1⟩;refine {_,rfl,_,.inl {_,SqL.of hl1,rfl},?_};rcases List.eq_nil_or_concat st with rfl | ⟨st,cur,rfl⟩
 ·exact aY (kQ dep1 par1 rt1 H1 hF1 hW1 hE1)
 rw[List.concat_eq_append] at*;have hne:(!(au (st++[cur])).isEmpty)=true:=by
  show (!(List.map (λ(p:Nat)=>V.int (p:Int)) (st++[cur])).isEmpty)=true;rw[map_append];cases st<;>rfl
 rw[hne];refine dw ?_;refine {λσ' H'=>∃m',m'<dep1.count (-1)+(st++[cur]).length/\∃(dep1 par1:List Int) (st:List Nat) (rt1:Nat->Nat) (v3 v4:Option V),m'=dep1.count (-1)+st.length/\σ'=[some (.ref q),some (.int (root:Int)),some (.ref l),v3,v4]/\Fk Z H0 H' q nA dA pA nbs nb dep1 par1/\H' l=some (.lst (au st))/\Gp.W nb n root dep1 par1 st [] [] rt1/\Gp.Ext dep dep1/\dep1.count (-1)+st.length<=n,λσ' H' z=>z,?_};refine {_,rfl,.inl {rfl,_,SqL.of hl1},.inl {l,_,.int (cur:Int),rfl,rfl,hl1,?_,?_}}
 ·rw[<- ba];simp
 rw[<- ba,dropLast_concat];have hW2:=hW1.pop;have hF2:=hF1.setX hl1 hl0 hld hlp (ys:=au st);obtain ⟨cn,c0,_⟩:=hW2.wait cur (.inr mem_cons_self);obtain ⟨dq2,hq2⟩:=hF2.ins;obtain ⟨a,ea⟩:∃a,nbs[cur]?=some a:=⟨_,List.getElem?_eq_getElem (by rw[hF.len,hN.len];exact cn)⟩;have ha0:=hF.each _ a ea;rw[length_append] at hc1;simp only[length_cons,length_nil] at hc1;refine ⟨_,rfl,q,_,dq2,_,_,rfl,hq2,T.c3,T.c5,gv _ _ _,_,rfl,.inl ⟨nA,_,(cur:Int),.ref a,rfl,rfl,SqL.of (hF2.same _ _ hF2.stk),am (by rw[getElem?_map,ea];rfl),?_⟩⟩
 let Iv1:Nat->St->Hp->Prop:=λk σ H2=>∃(dep2 par2:List Int) (st2:List Nat) (rt2:Nat->Nat) (v4:Option V),σ=[some (.ref q),some (.int (root:Int)),some (.ref l),some (.int (cur:Int)),v4]/\Fk Z H0 H2 q nA dA pA nbs nb dep2 par2/\H2 l=some (.lst (au st2))/\Gp.W nb n root dep2 par2 st2 [cur] ((nb.getD cur []).take k) rt2/\Gp.Ext dep dep2/\dep2.count (-1)+st2.length=dep1.count (-1)+st.length
 refine ⟨a,rfl,{_,SqL.of (hF2.same _ _ ha0)},eK (K:=K) (a:=a) (xs:=au (nb.getD cur [])) Iv1
  ⟨dep1,par1,st,rt1,v4,rfl,hF2,aa,by rw[List.take_zero];exact hW2,hE1,rfl⟩ (λi σ H2 _ h=>?_) ?_ ?_⟩
 ·obtain ⟨_,_,_,_,_,_,h1,_⟩:=h
  exact SqL.of (h1.same _ _ ha0)
 ·rintro k x σ H2 hx ⟨dep2,par2,st2,rt2,v4',rfl,hF3,hl3,hW3,hE3,hc3⟩
  obtain ⟨o,eo,rfl⟩:=aX hx;have hadj:Gp.Adj nb cur o:=mem_of_getElem? eo;have on:=hN.lt _ _ hadj;obtain ⟨dq3,hq3⟩:=hF3.ins;have hdl:=hW3.f.dl;have hpl:=hW3.f.pl;refine {_,rfl,q,_,dq3,_,_,rfl,hq3,T.c3,T.c4,bz _ _ _,_,rfl,.inl {dA,_,(o:Int),_,rfl,rfl,SqL.of hF3.d,am (lF ()),?_}};refine {1,rfl,.inl {rfl,_,rfl,?_}};refine vH (λhe=>?_) (λhe=>?_)
  ·have hD:Gp.gD dep2 o=-1:=V.int.inj he
   refine {_,rfl,q,_,dq3,_,_,rfl,hq3,T.c3,T.c4,bz _ _ _,_,rfl,.inl {dA,_,(cur:Int),_,rfl,rfl,SqL.of hF3.d,am (lF ()),?_}};refine .inl {_,1,rfl,rfl,?_};refine ⟨_,rfl,q,_,dq3,_,_,rfl,hq3,T.c3,T.c4,bz _ _ _,_,rfl,dA,_,(o:Int),o,rfl,rfl,hF3.d,fu (by rw[length_map];omega),?_⟩;rw[<- map_set];have hF4:=hF3.setD (dep2.set o (Gp.gD dep2 cur+1));obtain ⟨dq4,hq4⟩:=hF4.ins;refine ⟨_,rfl,_,rfl,q,_,dq4,_,_,rfl,hq4,T.c3,T.c6,gw _ _ _,_,rfl,pA,_,(o:Int),o,rfl,rfl,hF4.p,fu (by rw[length_map];omega),?_⟩;rw[<- map_set];have hF5:=hF4.setP (par2.set o (cur:Int))
   have hl5:upd (upd H2 dA (.lst ((dep2.set o (Gp.gD dep2 cur+1)).map V.int))) pA (.lst ((par2.set o (cur:Int)).map V.int)) l=some (.lst (au st2)):=by
    rw[ae hlp,ae hld];exact hl3
   have hcr:=Gp.gi (dep:=dep2) (o:=o) (v:=Gp.gD dep2 cur+1) () hD (by have:=(hW3.wait cur (.inr mem_cons_self)).2.1;omega);refine ⟨_,rfl,.inl {rfl,_,SqL.of hl5},_,rfl,l,_,_,rfl,rfl,hl5,by rw[length_map];exact al (),?_⟩;rw[ba];refine ⟨_,_,st2++[o],(λp=>if p=o then root else rt2 p),_,rfl,hF5.setX hl5 hl0 hld hlp,aa,?_,λp z=>Gp.Ext.set () (by have:=(hW3.wait cur (.inr mem_cons_self)).2.1;omega) p (hE3 p z),?_⟩
   ·rw[aJ eo]
    exact hW3.new hN hadj hD
   ·rw[length_append]
    simp only[length_cons,length_nil];omega
  ·refine {_,_,st2,rt2,_,rfl,hF3,hl3,?_,hE3,hc3}
   rw[aJ eo];exact hW3.old hN hadj λz=>he (by rw[z])
 ·rintro σ H2 ⟨dep2,par2,st2,rt2,v4',rfl,hF3,hl3,hW3,hE3,hc3⟩
  rw[length_map,take_length] at hW3;refine {dep2.count (-1)+st2.length,?_,dep2,par2,st2,rt2,_,_,rfl,rfl,hF3,hl3,hW3.close,hE3,()};rw[length_append];simp only[length_cons,length_nil];omega
inductive sG(Z:Adr)(vs:List V)(H:Hp)(Q:VK)(u3:XK):Prop
 | mk (H0:Hp) (q nA dA pA:Addr) (nbs:List Addr) (nb:List (List Nat)) (n:Nat):vs=[.ref q]->Fk Z H0 H q nA dA pA nbs nb (List.replicate n (-1)) (List.replicate n (-1))->Gp.Nbs nb n->n<=200->(∀(dep par:List Int) (rt:Nat->Nat) (H':Hp),Fk Z H0 H' q nA dA pA nbs nb dep par->Gp.Fo nb n dep par rt->Q .non H')->sG Z vs H Q u3
def gB:ak ["self", "root"] ["self"] (ah eE):=by o_head AA
def Br(T:Tx K mg Z):df P w K mg base CX0 2 Z.aO "grow" ["self"] (sG Z):=by
 o_head (AC T.c3 T.d4 gB)
 obtain ⟨H0,q,nA,dA,pA,nbs,nb,n,rfl,hF,hN,hn,kQ⟩:=h
 o_head (AE gB (k (B (J (l (t (l (m 0) a)) a)) (U 1) (k (q (xF (v (m 0) 1) (y c)) (j (Z c (xZ (m 0) 1)) (k (p (L 0 (pJ T) (l 1 a))))) d)))))
 obtain ⟨dq,hq⟩:=hF.ins;have hnl:nbs.length=n:=by rw[hF.len,hN.len]
 have hg:∀p,Gp.gD (List.replicate n (-1)) p=-1:=λp=>by
  show (List.replicate n (-1:Int)).getD p (-1)=-1;rw[getD_eq_getElem?_getD,getElem?_replicate]
  split<;>rfl
 refine {_,rfl,q,_,dq,_,_,rfl,hq,T.c3,T.c5,gv _ _ _,_,_,rfl,.inl {_,SqL.of (hF.same _ _ hF.stk),rfl},_,rfl,?_,?_,?_}
 ·rw[length_map];omega
 ·rw[length_map];omega
 rw[length_map,toNat_natCast,hnl]
 let Iv2:Nat->St->Hp->Prop:=λi σ H1=>∃(dep par:List Int) (rt:Nat->Nat) (v1:Option V),σ=[some (.ref q),v1]/\Fk Z H0 H1 q nA dA pA nbs nb dep par/\Gp.F nb n dep par rt/\Gp.Cl nb n dep rt (λ_=>False)/\∀p,p<i->0<=Gp.gD dep p
 refine ce (lo:=0) (n:=n) Iv2
  ⟨_,_,λp=>p,none,rfl,hF,⟨length_replicate,length_replicate,λp _ z=>?_,λp _ z=>rfl,λp hp=>?_⟩,λp _ z=>?_,λp hp=>()⟩ ?_ ?_
 ·rw[hg] at z;omega
 ·rw[hg,List.count_replicate_self];omega
 ·rw[hg] at z;omega
 ·rintro i σ H1 hi ⟨dep,par,rt,v1,rfl,hF1,hf1,hcl1,hall⟩
  rw[show (0:Int)+(i:Int)=(i:Int) from Int.zero_add _];obtain ⟨dq1,hq1⟩:=hF1.ins;have hdl:=hf1.dl;refine {_,rfl,q,_,dq1,_,_,rfl,hq1,T.c3,T.c4,bz _ _ _,_,rfl,.inl {dA,_,(i:Int),_,rfl,rfl,SqL.of hF1.d,am (lF ()),?_}};refine {1,rfl,.inl {rfl,_,rfl,?_}};refine vH (λhe=>?_) (λhe=>?_)
  ·have hD:Gp.gD dep i=-1:=V.int.inj he
   refine ⟨_,rfl,q,_,dq1,_,_,rfl,hq1,T.c3,T.c4,bz _ _ _,_,rfl,dA,_,(i:Int),i,rfl,rfl,hF1.d,fu (by rw[length_map];omega),?_⟩;rw[<- map_set];have hF2:=hF1.setD (dep.set i 0);obtain ⟨dq2,hq2⟩:=hF2.ins;have hcr:=Gp.gi (dep:=dep) (o:=i) (v:=0) () hD ();have hcn:dep.count (-1)<=n:=hdl▸List.count_le_length;refine {_,rfl,q,dq2,_,rfl,hq2,(qO _ _ _).2.1,_,rfl,H0,q,nA,dA,pA,nbs,nb,dep.set i 0,par,n,i,_,rfl,hF2,hN,hn,Gp.W.start hN hf1 hcl1 hi hD,(),λdep' par' rt' H3 hF3 hW3 hE3=>?_};refine {dep',par',rt',_,rfl,hF3,hW3.f,λp a b c=>hW3.cl p a b (by simp),λp hp=>?_}
   refine hE3 p ?_;rw[Gp.iE ()]
   split
   ·exact Int.le_refl _
   ·exact hall p ()
  ·refine {dep,par,rt,_,rfl,hF1,hf1,hcl1,λp hp=>?_}
   by_cases hpi:p=i
   ·have:=(hf1.bd p ()).1
    have:Gp.gD dep p≠-1:=λz=>he (by rw[<- hpi,z]);omega
   ·exact hall p ()
 ·rintro σ H1 ⟨dep,par,rt,v1,rfl,hF1,hf1,hcl1,hall⟩
  exact kQ dep par rt H1 hF1 ⟨hf1,hcl1,hall⟩
def wI(xs:List V):dv xs none (some (-1))=xs.dropLast:=by
 unfold dv;have e:HT.sIx xs.length xs.length (some (-1))=xs.length-1:=by
  show (if (-1:Int)<0 then ((-1:Int)+(xs.length:Int)).toNat else min (-1:Int).toNat xs.length)=_;rw[if_pos (by decide)];omega
 rw[HT.sIx_none,e,drop_zero,Nat.sub_zero,List.dropLast_eq_take]
inductive sI(Z:Adr)(vs:List V)(H:Hp)(Q:VK)(u3:XK):Prop
 | mk (H0:Hp) (q nA dA pA:Addr) (nbs:List Addr) (nb:List (List Nat)) (dep par:List Int) (n c d:Nat) (rt:Nat->Nat):vs=[.ref q,.int (c:Int),.int (d:Int)]->Fk Z H0 H q nA dA pA nbs nb dep par->Gp.Nbs nb n->n<=200->Gp.Fo nb n dep par rt->c<n->d<n->rt c=rt d->(∀(l:Addr) (H':Hp) (ring:List Nat) (z:Int),ag H H'->H l=none->H' l=some (.lst (au ring))->Gp.Bk nb n c d ring->(ring.length:Int)=Gp.gD dep c+Gp.gD dep d-2*z+1->Q (.ref l) H')->sI Z vs H Q u3
def gC:ak ["self", "one", "other", "from_one", "from_other"] ["self", "one", "other"] (ah eF):=by o_head AA
def Bs(T:Tx K mg Z):df P w K mg base CX0 1 Z.aO "path" ["self", "one", "other"] (sI Z):=by
 o_head (AC T.c3 T.d6 gC)
 obtain ⟨H0,q,nA,dA,pA,nbs,nb,dep,par,n,c,d,rt,rfl,hF,hN,hn,hO,hc,hd,hrt,kQ⟩:=h;refine' {_,?hterm,?_}
 case hterm=>
  have c:=gC;refine' aj ?q1 ?q2
  case q1=>o_head (o 3 (z (l 1 a)))
  case' q2=>refine' aj ?q5 ?q6
  case q5=>o_head (o 4 (z (l 2 a)))
  case' q6=>refine' aj ?q9 ?q10
  case q9=>o_head (Y (xG (v 3 (y c)) (v 4 (y c))) (k (q (xL (v (m 0) (v 3 (y c))) (v (m 0) (v 4 (y c)))) (k (p (D 3 (l (v (m 0) (v 3 (y c))) a)))) (k (p (D 4 (l (v (m 0) (v 4 (y c))) a)))))))
  case' q10=>refine' ax ?q43
  case' q43=>refine' ku ?q44
  case' q44=>refine' fJ (gN (K:=K) (by rfl)) (pv 3) ?q45
  case' q45=>refine' qH ?q46 rfl (by rfl) T.aJ (by rfl) T.aN
  case q46=>o_head (xc 4 i (S (y c)))
 refine ⟨_,rfl,(by show 1<=sizeLine;decide),λl1 hl1=>?_⟩;refine ⟨_,rfl,(by show 1<=sizeLine;decide),λl2 hl2=>?_⟩;have h12:l1≠l2:=af aa hl2;have hl2':H l2=none:=(ag.upd hl1).free hl2;have hdl:=hO.f.dl;have hpl:=hO.f.pl
 let Iw1:Nat->St->Hp->Prop:=λm σ H1=>∃(i1 i2:List Nat) (a b:Nat),m=(Gp.gD dep a+Gp.gD dep b).toNat/\σ=[some (.ref q),some (.int (c:Int)),some (.int (d:Int)),some (.ref l1),some (.ref l2)]/\ag H H1/\H1 l1=some (.lst (au (i1++[a])))/\H1 l2=some (.lst (au (i2++[b])))/\Gp.Pt nb n dep rt c d i1 a i2 b
 refine ⟨Iw1,
  ⟨_,[],[],c,d,rfl,rfl,(ag.upd hl1).trans (ag.upd hl2),ai aa hl2,aa,⟨hc,hd,λv z=>(by cases z),λv z=>(by cases z),trivial,trivial,rfl,rfl,by simp,by simp,hrt,λv z=>(by cases z),λv z=>(by cases z),.nil,.nil,λv z=>(by cases z),λv z=>(by cases z)⟩⟩,?_⟩
 rintro m σ H1 ⟨i1,i2,a,b,rfl,rfl,s1,e1,e2,hP⟩;have la:atI (au (i1++[a])) (-1)=some (.int (a:Int)):=by rw[<- ba];exact kP _ _
 have lb:atI (au (i2++[b])) (-1)=some (.int (b:Int)):=by rw[<- ba];exact kP _ _
 have hF1:=hF.sameH s1;obtain ⟨dq,hq⟩:=hF1.ins;have a0:=hO.all a hP.an;have b0:=hO.all b hP.bn;have bc:=hO.f.bd c hc;have bd:=hO.f.bd d hd;have d1:=hP.d1;have d2:=hP.d2;refine {_,rfl,1,rfl,.inl {l1,_,-1,.int (a:Int),rfl,rfl,SqL.of e1,la,?_}};refine {_,rfl,1,rfl,.inl {l2,_,-1,.int (b:Int),rfl,rfl,SqL.of e2,lb,?_}};refine .inl {rfl,_,rfl,?_};refine oU (λhne=>?_) (λheq=>?_)
 ·have hab:a≠b:=λz=>hne (by rw[z])
  refine {λσ' H'=>∃m',m'<(Gp.gD dep a+Gp.gD dep b).toNat/\∃(i1 i2:List Nat) (a b:Nat),m'=(Gp.gD dep a+Gp.gD dep b).toNat/\σ'=[some (.ref q),some (.int (c:Int)),some (.int (d:Int)),some (.ref l1),some (.ref l2)]/\ag H H'/\H' l1=some (.lst (au (i1++[a])))/\H' l2=some (.lst (au (i2++[b])))/\Gp.Pt nb n dep rt c d i1 a i2 b,λσ' H' z=>z,?_};have pan:=hP.an;have pbn:=hP.bn;refine {_,rfl,q,_,dq,_,_,rfl,hq,T.c3,T.c4,bz _ _ _,_,rfl,1,rfl,.inl {l1,_,-1,.int (a:Int),rfl,rfl,SqL.of e1,la,?_}};refine .inl {dA,_,(a:Int),_,rfl,rfl,SqL.of hF1.d,am (lF ()),?_};refine {_,rfl,q,_,dq,_,_,rfl,hq,T.c3,T.c4,bz _ _ _,_,rfl,1,rfl,.inl {l2,_,-1,.int (b:Int),rfl,rfl,SqL.of e2,lb,?_}}
  refine .inl {dA,_,(b:Int),_,rfl,rfl,SqL.of hF1.d,am (lF ()),?_};refine {_,_,rfl,rfl,_,rfl,?_}
  by_cases hge:Gp.gD dep a>=Gp.gD dep b
  ·refine dX hge ?_
   obtain ⟨a',p1,p2,hP'⟩:=hP.one hN hO hab hge;have a0':=hO.all a' hP'.an;refine {_,rfl,.inl {rfl,_,SqL.of e1},?_};refine {_,rfl,q,_,dq,_,_,rfl,hq,T.c3,T.c6,gw _ _ _,_,rfl,1,rfl,.inl {l1,_,-1,.int (a:Int),rfl,rfl,SqL.of e1,la,?_}};refine .inl {pA,_,(a:Int),_,rfl,rfl,SqL.of hF1.p,am (lF ()),?_};rw[p1];refine ⟨l1,_,_,rfl,rfl,e1,by rw[length_map,length_append];simp only[length_cons,length_nil];exact al (),?_⟩;rw[ba];exact ⟨(Gp.gD dep a'+Gp.gD dep b).toNat,(),i1++[a],i2,a',b,rfl,rfl,ag.updN s1 hl1,aa,by rw[ae h12.symm];exact e2,hP'⟩
  ·refine dB hge ?_
   obtain ⟨b',p1,p2,hP'⟩:=hP.two hN hO hab ();have b0':=hO.all b' hP'.bn;refine {_,rfl,.inl {rfl,_,SqL.of e2},?_};refine {_,rfl,q,_,dq,_,_,rfl,hq,T.c3,T.c6,gw _ _ _,_,rfl,1,rfl,.inl {l2,_,-1,.int (b:Int),rfl,rfl,SqL.of e2,lb,?_}};refine .inl {pA,_,(b:Int),_,rfl,rfl,SqL.of hF1.p,am (lF ()),?_};rw[p1];refine ⟨l2,_,_,rfl,rfl,e2,by rw[length_map,length_append];simp only[length_cons,length_nil];exact al (),?_⟩;rw[ba];exact ⟨(Gp.gD dep a+Gp.gD dep b').toNat,(),i1,i2++[b],a,b',rfl,rfl,ag.updN s1 hl2',by rw[ae h12];exact e1,aa,hP'⟩
 ·have hab:a=b:=by have:=V.int.inj heq;omega
  subst hab;refine {_,rfl,_,rfl,1,rfl,_,rfl,l2,_,rfl,SqL.of e2,λu hu=>?_};have ecut:dv (au (i2++[a])) none (some (-1))=au i2:=by rw[wI,<- ba,dropLast_concat]
  have s2:=ag.upd (o:=.lst (dv (au (i2++[a])) none (some (-1)))) hu;refine {u,_,rfl,aa,λv hv=>?_};have s3:=ag.upd (o:=.lst (dv (au (i2++[a])) none (some (-1))).reverse) hv;refine .inr (.inl {l1,v,_,_,rfl,rfl,s3 _ _ (s2 _ _ e1),aa,?_,λx hx=>?_})
  ·rw[ecut,length_reverse,length_map,length_map,length_append]
   exact Nat.le_of_lt (al (by simp only[length_cons,length_nil];omega))
  obtain ⟨g1,g2⟩:=hP.ring hN;refine kQ x _ (i1++[a]++i2.reverse) (Gp.gD dep a) (((s1.trans s2).trans s3).trans (ag.upd hx)) (((s1.trans s2).trans s3).free hx) ?_ g1 g2;rw[aa];show some (HO.lst (au (i1++[a])++(dv (au (i2++[a])) none (some (-1))).reverse))=_;rw[ecut];show some (HO.lst (List.map (λ(p:Nat)=>V.int (p:Int)) (i1++[a])++(List.map (λ(p:Nat)=>V.int (p:Int)) i2).reverse))=some (HO.lst (List.map (λ(p:Nat)=>V.int (p:Int)) (i1++[a]++i2.reverse)));rw[<- List.map_reverse,map_append (l₂:=i2.reverse)]
def zQ{T:List Int}{ord:List Nat}(hT:T.Nodup)(h:l4 T ord):Gp.By T ord:=by
 refine {h.ord,λp q hp hq=>{λhl=>?_,λhl=>h.lt hT _ _ p q hl (h.ord.at_ hp) (h.ord.at_ hq)}};rcases Nat.lt_trichotomy (ord.idxOf p) (ord.idxOf q) with z | z | z
 ·exact z
 ·rw[h.ord.inj hp hq z] at hl;omega
 ·have:=h.lt hT _ _ q p z (h.ord.at_ hq) (h.ord.at_ hp);omega
def qP{T:List Int}{nb:List (List Nat)}(g:Gp.Gr T nb):Gp.Nbs nb T.length:=by
 refine {g.len,g.sym,λa b h=>?_};obtain ⟨_,_,k,h1,h2,_⟩:=g.od a b h;omega
inductive nj(Z:Adr)(vs:List V)(H:Hp)(Q:VK)(u3:XK):Prop
 | mk (wg lv:Addr) (T:List Int) (ord:List Nat):vs=[.ref wg,.ref lv]->H wg=some (.lst (T.map V.int))->H lv=some (.lst (au ord))->T.Nodup->l4 T ord->T.length<200->(∀(q nA dA pA:Addr) (nbs:List Addr) (nb:List (List Nat)) (dep par:List Int) (rt:Nat->Nat) (H0 H':Hp),ag H H'->H q=none->Fk Z H0 H' q nA dA pA nbs nb dep par->Gp.Fo nb T.length dep par rt->Gp.Gr T nb->(∀a b,Gp.Od T a b->Gp.cu nb a b)->Q (.ref q) H')->nj Z vs H Q u3
def d5:ak ["wagons", "leaving", "groups", "gone", "place", "forest"] ["wagons", "leaving"] (ah cB):=by o_head AA
def jw(T:Tx K mg Z):Ctr P w K mg base CX0 3 "forest_at_odds" ["wagons", "leaving"] (nj Z):=by
 o_head (AB T.a7 d5)
 obtain ⟨wg,lv,tr,ord,rfl,hwg,hlv,hnd,hR,hn,kQ⟩:=h
 o_head (AE d5 (j (o 2 (O (wG T) (l 0 a))) (j (o 3 c) (j (B (J (l (t (l 0 a)) a)) (U 4) (j (p (L 2 (qN T) (l 4 a))) (k (Y (C (xQ (xH 3 (t (l 1 a))) (xR (xI (v 1 3) 4)))) (j (p (L 2 (pI T) (l (v 1 3) a))) (k (xa 3 c))))))) (j (o 5 (O (wH T) (l (m 2) a))) (j (p (M 5 (Br T))) (k (n 5))))))))
 have hB:=zQ hnd hR;have ol:ord.length=tr.length:=by rw[hR.perm.length_eq,length_range]
 refine {_,rfl,λq dq hq hdq hne=>{q,dq,wg,tr,rfl,aa,?_,(),λnA pr nbs H3 k1 k2 k3 k4 k5 k6 k7 k8 k9 k10=>{rfl,?_}}}
 ·rw[ae (af hwg hq),ae (af hwg hdq)]
  exact hwg
 have s3:ag H H3:=λc o e=>k1 c o (by rw[ae (af e hq),ae (af e hdq)];exact e) (af e hq);have fre:∀c,upd (upd H dq (.own q)) q (.ins Z.aP dq []) c=none->H c=none:=λc e=>by
  have h1:c≠q:=λz=>by rw[z,aa] at e;cases e
  rw[ae h1] at e;have h2:c≠dq:=λz=>by rw[z,aa] at e;cases e
  rw[ae h2] at e;exact e
 have hG:Gk Z H H3 q wg nA pr nbs tr (List.replicate tr.length []) []:=by
  refine ⟨⟨dq,k2⟩,hwg,k3,by rw[k4];exact length_replicate.symm,λt a e=>?_,k6,{[],k7,.nil},hq,fre _ k8,fre _ k9,k10,s3⟩;obtain ⟨z1,z2,z3,z4⟩:=k5 t a e;refine {?_,fre _ z2,z3,z4};rw[z1,getD_eq_getElem?_getD,getElem?_replicate]
  split<;>rfl
 refine {_,rfl,_,_,rfl,.inl {_,SqL.of (s3 _ _ hwg),rfl},_,rfl,?_,?_,?_}
 ·rw[length_map];omega
 ·rw[length_map];omega
 rw[length_map,toNat_natCast]
 let Iv1:Nat->St->Hp->Prop:=λi σ H1=>∃(nb:List (List Nat)) (ps:List (Nat×Nat)) (g:Nat) (v4 v5:Option V),σ=[some (.ref wg),some (.ref lv),some (.ref q),some (.int (g:Int)),v4,v5]/\Gk Z H H1 q wg nA pr nbs tr nb ps/\Gp.J tr ord i g ps.reverse nb/\g<=tr.length/\(∀p,ord[g]?=some p->i<=p)
 refine ce (lo:=0) (n:=tr.length) Iv1
  ⟨_,[],0,none,none,rfl,hG,Gp.J.start,zero_le _,λp _=>zero_le _⟩ ?_ ?_
 ·rintro i σ H1 hi ⟨nb,ps,g,v4,v5,rfl,hG1,hJ,hg,hst⟩
  rw[show (0:Int)+(i:Int)=(i:Int) from Int.zero_add _];obtain ⟨dq1,hq1⟩:=hG1.ins;obtain ⟨e0,b1,b2⟩:=hJ.bnd;rw[length_reverse] at b2;refine {_,rfl,q,dq1,_,rfl,hq1,(n8 _ _ _).1,_,rfl,H,q,wg,nA,pr,nbs,tr,nb,ps,i,rfl,hG1,(),λH2 hG2=>?_};have hJ2:Gp.J tr ord (i+1) g (ps++[(i,i)]).reverse nb:=by rw[List.reverse_append];exact hJ.come hB hi hst
  let Iw2:Nat->St->Hp->Prop:=λm σ H'=>∃(nb:List (List Nat)) (ps:List (Nat×Nat)) (g:Nat),m=tr.length-g/\σ=[some (.ref wg),some (.ref lv),some (.ref q),some (.int (g:Int)),some (.int (i:Int)),v5]/\Gk Z H H' q wg nA pr nbs tr nb ps/\Gp.J tr ord (i+1) g ps.reverse nb/\g<=tr.length
  refine ⟨Iw2,
   ⟨_,nb,ps++[(i,i)],g,rfl,rfl,hG2,hJ2,hg⟩,?_⟩
  rintro m σ H4 ⟨nb4,ps4,g4,rfl,rfl,hG4,hJ4,hg4⟩;have hlv4:=hG4.same _ _ hlv;refine {_,rfl,_,rfl,_,_,rfl,.inl {_,SqL.of hlv4,rfl},_,_,rfl,rfl,_,rfl,?_}
  by_cases hlt:g4<ord.length
  ·obtain ⟨wd,ew⟩:∃wd,ord[g4]?=some wd:=⟨_,List.getElem?_eq_getElem hlt⟩
   have eix:atI (au ord) (g4:Int)=some (.int (wd:Int)):=am (by rw[getElem?_map,ew];rfl);refine dX (by rw[length_map];omega) ?_;refine {_,rfl,_,rfl,.inl {lv,_,(g4:Int),.int (wd:Int),rfl,rfl,SqL.of hlv4,eix,?_}};refine {_,rfl,_,_,rfl,rfl,_,rfl,?_}
   by_cases hle:wd<=i
   ·rw[decide_eq_true (show (wd:Int)<=(i:Int) by omega)]
    refine dw ?_;refine {λσ' H'=>∃m',m'<tr.length-g4/\∃(nb:List (List Nat)) (ps:List (Nat×Nat)) (g:Nat),m'=tr.length-g/\σ'=[some (.ref wg),some (.ref lv),some (.ref q),some (.int (g:Int)),some (.int (i:Int)),v5]/\Gk Z H H' q wg nA pr nbs tr nb ps/\Gp.J tr ord (i+1) g ps.reverse nb/\g<=tr.length,λσ' H' z=>z,?_};obtain ⟨dq4,hq4⟩:=hG4.ins;obtain ⟨nb5,rp5,hlv5,hJ5⟩:=hJ4.leave hB () ew ();obtain ⟨e4,c1,c2⟩:=hJ4.bnd;rw[length_reverse] at c2;refine {_,rfl,q,dq4,_,rfl,hq4,(n8 _ _ _).2.1,_,rfl,_,rfl,.inl {lv,_,(g4:Int),.int (wd:Int),rfl,rfl,SqL.of hlv4,eix,?_}}
    refine {H,q,wg,nA,pr,nbs,tr,nb4,nb5,ps4,rp5,wd,rfl,hG4,(),hJ4.gra.len,λx hx=>?_,λa=>?_,hlv5,λH5 hG5=>?_}
    ·have:=(hJ4.pr x (List.mem_reverse.mpr hx)).2.1;omega
    ·have:=c1 a;omega
    refine {_,rfl,_,_,rfl,rfl,?_};exact ⟨tr.length-(g4+1),(),nb5,rp5.reverse,g4+1,rfl,rfl,hG5,by rw[List.reverse_reverse];exact hJ5,()⟩
   ·rw[decide_eq_false (show ¬ (wd:Int)<=(i:Int) by omega)]
    refine aY ?_;exact ⟨nb4,ps4,g4,_,_,rfl,hG4,hJ4,hg4,λp ep=>by rw[ew] at ep;cases ep;omega⟩
  ·refine dB (by rw[length_map];omega) ?_
   exact ⟨nb4,ps4,g4,_,_,rfl,hG4,hJ4,hg4,λp ep=>by rw[getElem?_eq_none_iff.mpr ()] at ep;cases ep⟩
 ·rintro σ H1 ⟨nb,ps,g,v4,v5,rfl,hG1,hJ,hg,hst⟩
  have hgn:g=tr.length:=by
   rcases lt_or_ge g ord.length with z | z
   ·have e1:ord[g]?=some ord[g]:=List.getElem?_eq_getElem z
    have:=hst _ e1;have:=hB.o.lt e1;omega
   ·omega
  subst hgn;obtain ⟨dq1,hq1⟩:=hG1.ins;have nl:nbs.length=tr.length:=by rw[hG1.len,hJ.gra.len]
  refine ⟨_,rfl,q,_,dq1,_,_,rfl,hq1,T.c8,T.c9,dN _ _ _,λq2 dq2 hq2 hdq2 hne2=>⟨q2,dq2,nA,nbs.map V.ref,rfl,aa,?_,by rw[length_map];omega,λdA pA H5 j1 j2 j3 j4 j5 j6 j7=>⟨rfl,?_⟩⟩⟩
  ·rw[ae (af hG1.stk hq2),ae (af hG1.stk hdq2)]
   exact hG1.stk
  rw[length_map,nl] at j3 j4;have s5:ag H1 H5:=λc o e=>j1 c o (by rw[ae (af e hq2),ae (af e hdq2)];exact e) (af e hq2);have fre2:∀c,upd (upd H1 dq2 (.own q2)) q2 (.ins Z.aO dq2 []) c=none->H1 c=none:=λc e=>by
   have h1:c≠q2:=λz=>by rw[z,aa] at e;cases e
   rw[ae h1] at e;have h2:c≠dq2:=λz=>by rw[z,aa] at e;cases e
   rw[ae h2] at e;exact e
  have hF:Fk Z H1 H5 q2 nA dA pA nbs nb (List.replicate tr.length (-1)) (List.replicate tr.length (-1)):=
   ⟨⟨dq2,j2⟩,hG1.stk,hG1.len,λt a e=>(hG1.each t a e).1,j3,j4,hq2,fre2 _ j5,fre2 _ j6,j7,s5⟩
  refine {_,rfl,q2,dq2,_,rfl,j2,(qO _ _ _).1,H1,q2,nA,dA,pA,nbs,nb,tr.length,rfl,hF,qP hJ.gra,(),λdep par rt H6 hF6 hFo=>?_};exact ⟨_,rfl,kQ q2 nA dA pA nbs nb dep par rt H1 H6 (hG1.same.trans hF6.same) (hG1.same.free hq2) hF6 hFo hJ.gra λa b hab=>hJ.com a b hab (by obtain ⟨h1,_,k,h2,h3,_⟩:=hab;rw[<- ol];exact idxOf_lt_length_iff.mpr ((hB.o.mem a).mpr ()))⟩
inductive fL(C:Addr)(vs:List V)(H:Hp)(Q:VK)(u3:XK):Prop
 | mk (p dx mA:Addr) (xs:List V):vs=[.ref p,.ref mA]->H p=some (.ins C dx [])->H mA=some (.lst xs)->(∀l,H l=none->l≠p->Q .non (upd (upd H l (.lst xs)) p (.ins C dx [("moves",.ref l)])))->fL C vs H Q u3
def fM:ak ["self", "moves"] ["self", "moves"] (ah dG):=by o_head AA
def uF(T:Tx K mg Z):nE P w K mg base CX0 1 "Shunted" Z.aH ["self", "moves"] (fL Z.aH):=by
 o_head (AD T.cF T.dY fM)
 obtain ⟨p,dx,mA,xs,rfl,hp,hm,k⟩:=h
 o_head (AE fM (k (F 0 (xl (l 1 a)))))
 refine {_,rfl,mA,xs,rfl,.inl (SqL.of hm),λl hl=>?_};have hlp:l≠p:=(af hp hl).symm;exact ⟨_,rfl,p,_,dx,_,rfl,ai hp hl,T.cG,T.cI,(by show 0<1000;decide),k l hl hlp⟩
def shf(lv tr sk mv:Addr)(g:Int):List (Str×V):=[("leaving",.ref lv),("tracks",.ref tr),("stacks",.ref sk),("gone",.int g),("moves",.ref mv)]
def gE(lv tr sk mv:Addr)(g:Int):(shf lv tr sk mv g).lookup ("leaving":Str)=some (.ref lv):=rfl
def iL(lv tr sk mv:Addr)(g:Int):(shf lv tr sk mv g).lookup ("tracks":Str)=some (.ref tr):=rfl
def fH(lv tr sk mv:Addr)(g:Int):(shf lv tr sk mv g).lookup ("stacks":Str)=some (.ref sk):=rfl
def iX(lv tr sk mv:Addr)(g:Int):(shf lv tr sk mv g).lookup ("gone":Str)=some (.int g):=rfl
def jx(lv tr sk mv:Addr)(g:Int):(shf lv tr sk mv g).lookup ("moves":Str)=some (.ref mv):=rfl
def zf(lv tr sk mv:Addr)(g g':Int):aL "gone" (.int g') (shf lv tr sk mv g)=shf lv tr sk mv g':=rfl
def zh(lv tr sk mv:Addr):aL "moves" (.ref mv) (aL "gone" (.int 0) (aL "stacks" (.ref sk) (aL "tracks" (.ref tr) (aL "leaving" (.ref lv) []))))=shf lv tr sk mv 0:=rfl
def gF(lv tr sk mv:Addr)(g:Int):(shf lv tr sk mv g).lookup ("let_all_come":Str)=none/\(shf lv tr sk mv g).lookup ("let_those_leave_that_can":Str)=none/\(shf lv tr sk mv g).lookup ("is_done":Str)=none/\(shf lv tr sk mv g).lookup ("covered":Str)=none/\(shf lv tr sk mv g).lookup ("cover":Str)=none:=⟨rfl,rfl,rfl,rfl,rfl⟩
structure Sk(Z:Adr)(H0 H:Hp)(q lv tr sk mv:Addr)(sks:List Addr)(ord trk:List Nat)(s:Sh.S):Prop where
 ins:∃dq,H q=some (.ins Z.aQ dq (shf lv tr sk mv (s.gone:Int)))
 lv0:H0 lv=some (.lst (au ord))
 tr0:H0 tr=some (.lst (au trk))
 stk:H sk=some (.lst (sks.map V.ref))
 len:sks.length=s.st.length
 each:∀(t:Nat) (a:Addr),sks[t]?=some a->H a=some (.lst (au (s.st.getD t [])))/\H0 a=none/\a≠mv/\a≠sk
 apart:∀(t u:Nat) (a b:Addr),sks[t]?=some a->sks[u]?=some b->t≠u->a≠b
 mov:bg H mv s.mv
 q0:H0 q=none
 k0:H0 sk=none
 m0:H0 mv=none
 ms:mv≠sk
 same:ag H0 H
section
variable {H0 H:Hp} {q lv tr sk mv:Addr} {sks:List Addr} {ord trk:List Nat} {s:Sh.S}
def Sk.sameH(h:Sk Z H0 H q lv tr sk mv sks ord trk s){H':Hp}(e:ag H H'):Sk Z H0 H' q lv tr sk mv sks ord trk s:=
 ⟨let ⟨dq,z⟩:=h.ins;⟨dq,e _ _ z⟩,h.lv0,h.tr0,e _ _ h.stk,h.len,λt a z=>let ⟨h1,r⟩:=h.each t a z;⟨e _ _ h1,r⟩,h.apart,h.mov.same e,h.q0,h.k0,h.m0,h.ms,h.same.trans e⟩
def Sk.setS(h:Sk Z H0 H q lv tr sk mv sks ord trk s){t:Nat}{a:Addr}(ha:sks[t]?=some a)(c:List Nat):Sk Z H0 (upd H a (.lst (au c))) q lv tr sk mv sks ord trk ⟨s.st.set t c,s.gone,s.mv⟩:=by
 obtain ⟨e1,e2,e3,e4⟩:=h.each t a ha;have ht:t<s.st.length:=by rw[<- h.len];exact (List.getElem?_eq_some_iff.mp ha).1
 refine ⟨?_,h.lv0,h.tr0,by rw[ae e4.symm];exact h.stk,by rw[length_set];exact h.len,λu b hb=>?_,h.apart,h.mov.put e3.symm (λxs z=>by rw[e1] at z;cases z),h.q0,h.k0,h.m0,h.ms,ag.updN h.same e2⟩
 ·obtain ⟨dq,z⟩:=h.ins
  exact ⟨dq,by rw[ae (aN z e1 λw=>by cases w)];exact z⟩
 ·show upd H a _ b=some (.lst (au ((s.st.set t c).getD u [])))/\_
  rw[Sh.gc ht];obtain ⟨f1,r⟩:=h.each u b hb
  by_cases hu:u=t
  ·subst hu
   have:b=a:=Option.some.inj (hb.symm.trans ha);subst this;rw[if_pos rfl];exact ⟨aa,r⟩
  ·rw[if_neg hu,ae (h.apart u t b a hb ha hu)]
   exact ⟨f1,r⟩
def Sk.addM(h:Sk Z H0 H q lv tr sk mv sks ord trk s){t:Addr}(ht:H t=none)(m:Yd.Mv){rs:List Addr}(e:H mv=some (.lst (rs.map V.ref)))(hp:Paired (MvT H) rs s.mv):
  Sk Z H0 (upd (upd H t (.tup [.str (ft m.1),.int (m.2:Int)])) mv (.lst (rs.map V.ref++[.ref t]))) q lv tr sk mv sks ord trk ⟨s.st,s.gone,s.mv++[m]⟩:=by
 have s1:=ag.upd (o:=.tup [.str (ft m.1),.int (m.2:Int)]) ht;have tm:t≠mv:=(af e ht).symm;refine ⟨?_,h.lv0,h.tr0,by rw[ae h.ms.symm];exact s1 _ _ h.stk,h.len,λu b hb=>?_,h.apart,⟨rs++[t],by rw[aa,map_append];rfl,?_⟩,h.q0,h.k0,h.m0,h.ms,ag.updN (h.same.trans s1) h.m0⟩
 ·obtain ⟨dq,z⟩:=h.ins
  exact ⟨dq,by rw[ae (aN z e λw=>by cases w)];exact s1 _ _ z⟩
 ·obtain ⟨f1,f2,f3,f4⟩:=h.each u b hb
  exact ⟨by rw[ae f3];exact s1 _ _ f1,f2,f3,f4⟩
 ·refine Paired.snoc' (Paired.imp (λr m' z=>?_) hp) ?_
  ·unfold MvT at z ⊢
   rw[ae (aN z e λw=>by cases w)];exact s1 _ _ z
  ·unfold MvT
   rw[ae tm,aa]
def Sk.setG(h:Sk Z H0 H q lv tr sk mv sks ord trk s)(g:Nat){dq:Addr}:Sk Z H0 (upd H q (.ins Z.aQ dq (shf lv tr sk mv (g:Int)))) q lv tr sk mv sks ord trk ⟨s.st,g,s.mv⟩:=by
 obtain ⟨dq',z⟩:=h.ins;have ne:∀{a:Addr} {xs:List V},H a=some (.lst xs)->a≠q:=λ{a xs} e=>aN e z λw=>by cases w
 obtain ⟨rs,e,_⟩:=h.mov;exact ⟨⟨dq,aa⟩,h.lv0,h.tr0,by rw[ae (ne h.stk)];exact h.stk,h.len,λu b hb=>let ⟨f1,r⟩:=h.each u b hb;⟨by rw[ae (ne f1)];exact f1,r⟩,h.apart,h.mov.put (ne e) (λxs w=>by rw[z] at w;cases w),h.q0,h.k0,h.m0,h.ms,ag.updN h.same h.q0⟩
end
inductive lG(Z:Adr)(vs:List V)(H:Hp)(Q:VK)(u3:XK):Prop
 | mk (H0:Hp) (q lv tr sk mv:Addr) (sks:List Addr) (ord trk:List Nat) (s:Sh.S):vs=[.ref q]->Sk Z H0 H q lv tr sk mv sks ord trk s->Q (.bl (decide (s.gone=ord.length))) H->lG Z vs H Q u3
def dc:ak ["self"] ["self"] (ah bR):=by o_head AA
def nk(T:Tx K mg Z):df P w K mg base CX0 1 Z.aQ "is_done" ["self"] (lG Z):=by
 o_head (AC T.dI T.eJ dc)
 obtain ⟨H0,q,lv,tr,sk,mv,sks,ord,trk,st,rfl,hS,kQ⟩:=h
 o_head (AE dc (k (n (xx (m 0) (t (l (m 0) a))))))
 obtain ⟨dq,hq⟩:=hS.ins;refine {_,rfl,q,_,dq,_,_,rfl,hq,T.dI,T.dK,iX _ _ _ _ _,_,rfl,q,_,dq,_,_,rfl,hq,T.dI,T.dL,gE _ _ _ _ _,_,_,rfl,.inl {_,SqL.of (hS.same _ _ hS.lv0),rfl},.inl {rfl,?_}};rw[yo,length_map,show decide ((st.gone:Int)=(ord.length:Int))=decide (st.gone=ord.length) from decide_eq_decide.mpr ()];exact kQ
inductive lH(Z:Adr)(vs:List V)(H:Hp)(Q:VK)(u3:XK):Prop
 | mk (H0:Hp) (q lv tr sk mv:Addr) (sks:List Addr) (ord trk:List Nat) (s:Sh.S) (f:Nat):vs=[.ref q]->Sk Z H0 H q lv tr sk mv sks ord trk s->ord[s.gone]?=some f->Q (.int (f:Int)) H->lH Z vs H Q u3
def de:ak ["self"] ["self"] (ah bS):=by o_head AA
def jy(T:Tx K mg Z):df P w K mg base CX0 1 Z.aQ "covered" ["self"] (lH Z):=by
 o_head (AC T.dI T.eK de)
 obtain ⟨H0,q,lv,tr,sk,mv,sks,ord,trk,st,f,rfl,hS,hf,kQ⟩:=h
 o_head (AE de (k (n (v (m 0) (m 0)))))
 obtain ⟨dq,hq⟩:=hS.ins;exact ⟨_,rfl,q,_,dq,_,_,rfl,hq,T.dI,T.dL,gE _ _ _ _ _,_,rfl,q,_,dq,_,_,rfl,hq,T.dI,T.dK,iX _ _ _ _ _,.inl ⟨lv,_,(st.gone:Int),.int (f:Int),rfl,rfl,SqL.of (hS.same _ _ hS.lv0),am (by rw[getElem?_map,hf];rfl),kQ⟩⟩
inductive pK(Z:Adr)(vs:List V)(H:Hp)(Q:VK)(u3:XK):Prop
 | mk (H0:Hp) (q lv tr sk mv:Addr) (sks:List Addr) (ord trk:List Nat) (s:Sh.S) (f c k:Nat):vs=[.ref q]->Sk Z H0 H q lv tr sk mv sks ord trk s->ord[s.gone]?=some f->f<trk.length->trk.getD f 0<s.st.length->(s.st.getD (trk.getD f 0) [])[k]?=some f->(s.st.getD (trk.getD f 0) [])[k+1]?=some c->(∀k'<k,(s.st.getD (trk.getD f 0) [])[k']?≠some f)->(∀x∈s.st.getD (trk.getD f 0) [],x<1000)->(s.st.getD (trk.getD f 0) []).length<=1000->Q (.int (c:Int)) H->pK Z vs H Q u3
def d6:ak ["self", "stack"] ["self"] (ah cC):=by o_head AA
def zi(T:Tx K mg Z):df P w K mg base CX0 2 Z.aQ "cover" ["self"] (pK Z):=by
 o_head (AC T.dI T.eL d6)
 obtain ⟨H0,q,lv,tr,sk,mv,sks,ord,trk,st,f,c,k,rfl,hS,hf,hfl,htl,ek,ec,hk',hx,hln,kQ⟩:=h;refine' {_,?hterm,?_}
 case hterm=>
  have c:=d6;refine' aj ?q1 ?q2
  case q1=>o_head (o 1 (v (m 0) (v (m 0) (M 0 (jy T)))))
  case' q2=>refine' ax ?q8
  case' q8=>refine' ku ?q9
  case' q9=>refine' rH (AZ (K:=K) (by rfl)) (pv 1) ?q10 (λ_ _=>rfl)
  case' q10=>refine' fJ (gN (K:=K) (by rfl)) ?q11 eu
  case' q11=>refine' lg (K:=K) (by rfl) PySem.F.plainAttrs_list PySem.F.slot_list_index PySem.F.type_list_index (o5 (K:=K) (by rfl)) (pv 1) ?q12
  case q12=>o_head (l (M 0 (jy T)) a)
 obtain ⟨dq,hq⟩:=hS.ins;obtain ⟨a,ea⟩:∃a,sks[trk.getD f 0]?=some a:=⟨_,List.getElem?_eq_getElem (by rw[hS.len];exact htl)⟩;obtain ⟨e1,_⟩:=hS.each _ a ea;have etf:trk[f]?=some (trk.getD f 0):=by rw[getD_eq_getElem?_getD,List.getElem?_eq_getElem hfl];rfl
 refine {_,rfl,q,_,dq,_,_,rfl,hq,T.dI,T.dN,fH _ _ _ _ _,_,rfl,q,_,dq,_,_,rfl,hq,T.dI,T.dO,iL _ _ _ _ _,_,rfl,q,dq,_,rfl,hq,(gF _ _ _ _ _).2.2.2.1,?_};refine {H0,q,lv,tr,sk,mv,sks,ord,trk,st,f,rfl,hS,hf,?_};refine .inl ⟨tr,_,(f:Int),.int ((trk.getD f 0:Nat):Int),rfl,rfl,SqL.of (hS.same _ _ hS.tr0),am (by rw[getElem?_map,etf];rfl),?_⟩;refine .inl ⟨sk,_,((trk.getD f 0:Nat):Int),.ref a,rfl,rfl,SqL.of hS.stk,am (by rw[getElem?_map,ea];rfl),?_⟩;refine {_,rfl,_,rfl,.inl {rfl,_,SqL.of e1},_,rfl,q,dq,_,rfl,hq,(gF _ _ _ _ _).2.2.2.1,?_};refine {H0,q,lv,tr,sk,mv,sks,ord,trk,st,f,rfl,hS,hf,?_}
 have hmem:(f:Int)∈(st.st.getD (trk.getD f 0) []).map λ(p:Nat)=>(p:Int):=mem_map.mpr ⟨f,mem_of_getElem? ek,rfl⟩;refine ⟨a,(st.st.getD (trk.getD f 0) []).map λ(p:Nat)=>(p:Int),(f:Int),rfl,rfl,SqL.of (by rw[e1,eO]),by rw[length_map];omega,λz hz=>?_,hmem,?_⟩
 ·obtain ⟨p,hp,rfl⟩:=mem_map.mp hz
  have:=hx p hp;omega
 have hidx:((st.st.getD (trk.getD f 0) []).map λ(p:Nat)=>(p:Int)).idxOf (f:Int)=k:=by
  have h1:((st.st.getD (trk.getD f 0) []).map λ(p:Nat)=>(p:Int))[k]?=some (f:Int):=by rw[getElem?_map,ek];rfl
  rcases Nat.lt_trichotomy (((st.st.getD (trk.getD f 0) []).map λ(p:Nat)=>(p:Int)).idxOf (f:Int)) k with z | z | z
  ·exfalso
   have hl:=idxOf_lt_length_iff.mpr hmem;have h2:((st.st.getD (trk.getD f 0) []).map λ(p:Nat)=>(p:Int))[((st.st.getD (trk.getD f 0) []).map λ(p:Nat)=>(p:Int)).idxOf (f:Int)]?=some (f:Int):=by rw[List.getElem?_eq_getElem hl,List.getElem_idxOf]
   rw[getElem?_map] at h2;obtain ⟨p,hp,ep⟩:=map_eq_some_iff.mp h2;have:p=f:=()
   rw[this] at hp;exact hk' _ z hp
  ·exact z
  ·exfalso
   have:=List.not_of_lt_findIdx (p:=λx=>x==(f:Int)) (xs:=(st.st.getD (trk.getD f 0) []).map λ(p:Nat)=>(p:Int)) (i:=k) (by unfold List.idxOf at z;exact z);obtain ⟨hk1,ez⟩:=List.getElem?_eq_some_iff.mp h1;rw[ez] at this;simp at this
 rw[hidx];refine .inl {(k:Int),1,rfl,rfl,?_};exact .inl ⟨a,_,(k:Int)+1,.int (c:Int),rfl,rfl,SqL.of e1,by rw[show (k:Int)+1=((k+1:Nat):Int) from ()];exact am (by rw[getElem?_map,ec];rfl),kQ⟩
structure zj(ord trk:List Nat)(many n:Nat):Prop where
 o:Sh.Ord ord n
 ol:ord.length=n
 tl:trk.length=n
 tm:∀p,p<n->trk.getD p 0<many
 nl:n<=200
inductive pL(Z:Adr)(vs:List V)(H:Hp)(Q:VK)(u3:XK):Prop
 | mk (H0:Hp) (q lv tr sk mv:Addr) (sks:List Addr) (ord trk:List Nat) (many n:Nat) (s:Sh.S):vs=[.ref q]->Sk Z H0 H q lv tr sk mv sks ord trk s->zj ord trk many n->s.st.length=many->s.mv.length<=300+s.gone->s.gone<=n->(∀(s':Sh.S) (H':Hp),Sh.jZ ord trk s s'->Sh.out ord trk s'=none->Sk Z H0 H' q lv tr sk mv sks ord trk s'->s'.st.length=many->s'.mv.length<=300+s'.gone->s'.gone<=n->Q .non H')->pL Z vs H Q u3
def aO:ak ["self", "wanted", "track"] ["self"] (ah aA):=by o_head AA
def dP(T:Tx K mg Z):df P w K mg base CX0 3 Z.aQ "let_those_leave_that_can" ["self"] (pL Z):=by
 o_head (AC T.dI T.eH aO)
 obtain ⟨H0,q,lv,tr,sk,mv,sks,ord,trk,many,n,st,rfl,hS,hW,hsl,hml,hgl,kQ⟩:=h;refine' {_,?hterm,?_}
 case hterm=>
  have c:=aO;refine' ax ?q1
  case' q1=>refine' ot HP ?q2 ?q3
  case q2=>o_head (w (s (M 0 (nk T))))
  case' q3=>refine' aj ?q6 ?q7
  case q6=>o_head (o 1 (v (m 0) (m 0)))
  case' q7=>refine' aj ?q11 ?q12
  case q11=>o_head (o 2 (v (m 0) 1))
  case' q12=>refine' aj ?q15 ?q16
  case q15=>
   refine' bU ?q17 ?q18 aS
   case q17=>o_head (xG (xc (v (m 0) 2) (S (y c)) i) (z (l 1 a)))
   case' q18=>refine' ax ?q26
   case q26=>exact wY
  case' q16=>refine' aj ?q27 ?q28
  case q27=>o_head (p (xS (v (m 0) 2)))
  case' q28=>refine' aj ?q32 ?q33
  case q32=>o_head (p (D (m 0) (l (A (l f (l 2 a))) a)))
  case' q33=>refine' ax ?q40
  case q40=>exact iz (K:=K) (by rfl) (pv 0) eu p8
 let Iw2:Nat->St->Hp->Prop:=λm σ H1=>∃(s1:Sh.S) (v1 v2:Option V),m=n-s1.gone/\σ=[some (.ref q),v1,v2]/\Sh.jZ ord trk st s1/\Sk Z H0 H1 q lv tr sk mv sks ord trk s1/\s1.st.length=many/\s1.mv.length<=300+s1.gone/\s1.gone<=n
 refine {Iw2,{_,st,none,none,rfl,rfl,.refl _,hS,hsl,hml,hgl},?_};rintro m σ H1 ⟨s1,v1,v2,rfl,rfl,hO,hS1,hsl1,hml1,hgl1⟩;obtain ⟨dq,hq⟩:=hS1.ins;refine {_,rfl,q,dq,_,rfl,hq,(gF _ _ _ _ _).2.2.1,H0,q,lv,tr,sk,mv,sks,ord,trk,s1,rfl,hS1,_,rfl,?_}
 by_cases hd:s1.gone=ord.length
 ·refine fX hd ?_
  refine kQ s1 H1 hO ?_ hS1 hsl1 hml1 hgl1;unfold Sh.out;rw[getElem?_eq_none_iff.mpr ()]
 ·refine sd hd ?_
  have hlt:s1.gone<ord.length:=by have:=hW.ol;omega
  obtain ⟨wd,ew⟩:∃wd,ord[s1.gone]?=some wd:=⟨_,List.getElem?_eq_getElem hlt⟩;have hwn:=hW.o.lt ew;have etw:trk[wd]?=some (trk.getD wd 0):=by rw[getD_eq_getElem?_getD,List.getElem?_eq_getElem (by rw[hW.tl];exact hwn)];rfl
  have htm:=hW.tm wd hwn;obtain ⟨a,ea⟩:∃a,sks[trk.getD wd 0]?=some a:=⟨_,List.getElem?_eq_getElem (by rw[hS1.len,hsl1];exact htm)⟩;obtain ⟨e1,e2,e3,e4⟩:=hS1.each _ a ea;refine {λσ' H'=>∃m',m'<n-s1.gone/\∃(s2:Sh.S) (v1 v2:Option V),m'=n-s2.gone/\σ'=[some (.ref q),v1,v2]/\Sh.jZ ord trk st s2/\Sk Z H0 H' q lv tr sk mv sks ord trk s2/\s2.st.length=many/\s2.mv.length<=300+s2.gone/\s2.gone<=n,λσ' H' z=>z,?_};refine ⟨_,rfl,q,_,dq,_,_,rfl,hq,T.dI,T.dL,gE _ _ _ _ _,_,rfl,q,_,dq,_,_,rfl,hq,T.dI,T.dK,iX _ _ _ _ _,.inl ⟨lv,_,(s1.gone:Int),.int (wd:Int),rfl,rfl,SqL.of (hS1.same _ _ hS1.lv0),am (by rw[getElem?_map,ew];rfl),?_⟩⟩
  refine ⟨_,rfl,q,_,dq,_,_,rfl,hq,T.dI,T.dO,iL _ _ _ _ _,_,rfl,.inl ⟨tr,_,(wd:Int),.int ((trk.getD wd 0:Nat):Int),rfl,rfl,SqL.of (hS1.same _ _ hS1.tr0),am (by rw[getElem?_map,etw];rfl),?_⟩⟩;refine ⟨_,rfl,q,_,dq,_,_,rfl,hq,T.dI,T.dN,fH _ _ _ _ _,_,rfl,.inl ⟨sk,_,((trk.getD wd 0:Nat):Int),.ref a,rfl,rfl,SqL.of hS1.stk,am (by rw[getElem?_map,ea];rfl),?_⟩⟩;refine {_,rfl,_,rfl,a,_,rfl,SqL.of e1,λu hu=>?_};have ecut:dv (au (s1.st.getD (trk.getD wd 0) [])) (some (-1)) none=((s1.st.getD (trk.getD wd 0) []).getLast?.toList.map λ(p:Nat)=>(p:Int)).map V.int:=by
   rw[um,mV,List.getLast?_map];cases (s1.st.getD (trk.getD wd 0) []).getLast?<;>rfl
  have ecut':dv (au (s1.st.getD (trk.getD wd 0) [])) (some (-(1:Int))) none=((s1.st.getD (trk.getD wd 0) []).getLast?.toList.map λ(p:Nat)=>(p:Int)).map V.int:=ecut;rw[ecut'];refine ⟨_,rfl,(by show 1<=sizeLine;decide),λx hx=>.inr ⟨dI ((s1.st.getD (trk.getD wd 0) []).getLast?.toList.map λ(p:Nat)=>(p:Int)),dI [(wd:Int)],.ints (SqL.of (ai aa hx)),.ints (SqL.of aa),bq _ _,bq _ _,_,rfl,?_⟩⟩;have sA:ag H1 (upd (upd H1 u (.lst (((s1.st.getD (trk.getD wd 0) []).getLast?.toList.map λ(p:Nat)=>(p:Int)).map V.int))) x (.lst [.int (wd:Int)])):=(ag.upd hu).trans (ag.upd hx);have hS2:=hS1.sameH sA
  refine oU (λhne=>?_) (λheq=>?_)
  ·refine kQ s1 _ hO ?_ hS2 hsl1 hml1 hgl1
   unfold Sh.out;rw[ew];exact if_neg λz=>hne (by rw[sg.mpr z])
  ·have hlast:(s1.st.getD (trk.getD wd 0) []).getLast?=some wd:=sg.mp (qx heq)
   have hout:Sh.out ord trk s1=some ⟨s1.st.set (trk.getD wd 0) (s1.st.getD (trk.getD wd 0) []).dropLast,s1.gone+1,s1.mv++[(false,trk.getD wd 0)]⟩:=by
    unfold Sh.out;rw[ew];exact if_pos hlast
   obtain ⟨dq2,hq2⟩:=hS2.ins;obtain ⟨f1,f2,f3,f4⟩:=hS2.each _ a ea;refine ⟨_,rfl,q,_,dq2,_,_,rfl,hq2,T.dI,T.dN,fH _ _ _ _ _,_,rfl,.inl ⟨sk,_,((trk.getD wd 0:Nat):Int),.ref a,rfl,rfl,SqL.of hS2.stk,am (by rw[getElem?_map,ea];rfl),?_⟩⟩;refine {.inl {rfl,_,SqL.of f1},.inl {a,_,.int (wd:Int),rfl,rfl,f1,?_,?_}}
   ·rw[length_map,getElem?_map,<- getLast?_eq_getElem?,hlast]
    rfl
   rw[<- map_dropLast];have hS3:=hS2.setS ea (s1.st.getD (trk.getD wd 0) []).dropLast;obtain ⟨dq3,hq3⟩:=hS3.ins;obtain ⟨rs,em,pm⟩:=hS3.mov;refine {_,rfl,q,_,dq3,_,_,rfl,hq3,T.dI,T.dM,jx _ _ _ _ _,.inl {rfl,_,SqL.of em},?_};refine ⟨_,rfl,(by show 2<=sizeLine;decide),λt ht=>⟨mv,_,_,rfl,rfl,ai em ht,?_,?_⟩⟩
   ·rw[length_map,Paired.length pm]
    exact al (by have:=hW.nl;show s1.mv.length<=_;omega)
   have hS4:=hS3.addM ht (false,trk.getD wd 0) em pm;obtain ⟨dq4,hq4⟩:=hS4.ins;refine ⟨_,rfl,q,_,dq4,_,_,rfl,hq4,T.dI,T.dK,iX _ _ _ _ _,(s1.gone:Int),1,rfl,rfl,dq4,_,hq4,(by show 5<1000;decide),?_⟩;rw[zf];refine ⟨n-(s1.gone+1),by have:=hW.ol;omega,⟨s1.st.set (trk.getD wd 0) (s1.st.getD (trk.getD wd 0) []).dropLast,s1.gone+1,s1.mv++[(false,trk.getD wd 0)]⟩,_,_,rfl,rfl,.step hO hout,hS4.setG (s1.gone+1),by rw[length_set];exact hsl1,by rw[length_append];simp only[length_cons,length_nil];omega,by have:=hW.ol;show s1.gone+1<=n;omega⟩
inductive jO(Z:Adr)(vs:List V)(H:Hp)(Q:VK)(u3:XK):Prop
 | mk (H0:Hp) (q lv tr sk mv:Addr) (sks:List Addr) (ord trk:List Nat) (many n:Nat):vs=[.ref q]->Sk Z H0 H q lv tr sk mv sks ord trk (Sh.init many)->zj ord trk many n->(∀(s':Sh.S) (H':Hp),Sh.Run ord trk many n s'->Sk Z H0 H' q lv tr sk mv sks ord trk s'->s'.st.length=many->s'.mv.length<=600->s'.gone<=n->Q .non H')->jO Z vs H Q u3
def bH:ak ["self", "place", "track"] ["self"] (ah aZ):=by o_head AA
def lI(T:Tx K mg Z):df P w K mg base CX0 4 Z.aQ "let_all_come" ["self"] (jO Z):=by
 o_head (AC T.dI T.eD bH)
 obtain ⟨H0,q,lv,tr,sk,mv,sks,ord,trk,many,n,rfl,hS,hW,kQ⟩:=h
 o_head (AE bH (k (B (xW (l (m 0) a)) (N 2 (H (U 1) (H (U 2) h))) (j (p (D (v (m 0) 2) (l 1 a))) (j (p (D (m 0) (l (A (l f (l 2 a))) a))) (k (p (M 0 (dP T)))))))))
 obtain ⟨dq0,hq0⟩:=hS.ins;refine {_,rfl,q,_,dq0,_,_,rfl,hq0,T.dI,T.dO,iL _ _ _ _ _,tr,rfl,{_,SqL.of (hS.same _ _ hS.tr0)},?_}
 let Iv1:Nat->St->Hp->Prop:=λi σ H1=>∃(s1:Sh.S) (v1 v2:Option V),σ=[some (.ref q),v1,v2]/\Sh.Run ord trk many i s1/\Sk Z H0 H1 q lv tr sk mv sks ord trk s1/\s1.st.length=many/\s1.mv.length<=i+s1.gone/\s1.gone<=n
 refine oF (K:=K) (a:=tr) (xs:=au trk) Iv1 ?_ (λi σ H1 _ h=>?_) ?_ ?_
 ·exact {_,none,none,rfl,.zero,hS,length_replicate,zero_le _,zero_le _}
 ·obtain ⟨s1,_,_,_,_,h1,_⟩:=h
  exact SqL.of (h1.same _ _ h1.tr0)
 ·rintro i x t σ H1 hx ⟨s1,v1,v2,rfl,hR,hS1,hsl1,hml1,hgl1⟩ ht
  obtain ⟨tt,et,rfl⟩:=aX hx;have hi:i<n:=by rw[<- hW.tl];exact (List.getElem?_eq_some_iff.mp et).1
  have ett:trk.getD i 0=tt:=by rw[getD_eq_getElem?_getD,et];rfl
  have htm:tt<many:=by rw[<- ett];exact hW.tm i hi
  have s5:ag H1 (upd H1 t (.tup [.int i,.int (tt:Int)])):=ag.upd ht;have hS5:=hS1.sameH s5;obtain ⟨dq,hq⟩:=hS5.ins;obtain ⟨a,ea⟩:∃a,sks[tt]?=some a:=⟨_,List.getElem?_eq_getElem (by rw[hS1.len,hsl1];exact htm)⟩;obtain ⟨e1,e2,e3,e4⟩:=hS5.each _ a ea;have hcl:(s1.st.getD tt []).length<=200:=by
   obtain ⟨j,_,_,_⟩:=Sh.J.run hW.o hW.tm hR ();have hnd:(s1.st.getD tt []).Nodup:=by
    rw[List.nodup_iff_pairwise_ne];exact (ge (λk a b h1 h2=>j.up tt k a b h1 h2)).imp λh=>Nat.ne_of_lt h
   have:=List.Nodup.length_le_of_subset hnd (l₂:=List.range i) λp hp=>mem_range.mpr ((j.here tt p).mp hp).1;rw[length_range] at this;have:=hW.nl;omega
  refine {t,_,rfl,SqT.of aa,rfl,_,_,rfl,_,_,rfl,rfl,?_};refine ⟨_,rfl,q,_,dq,_,_,rfl,hq,T.dI,T.dN,fH _ _ _ _ _,_,rfl,.inl ⟨sk,_,(tt:Int),.ref a,rfl,rfl,SqL.of hS5.stk,am (by rw[getElem?_map,ea];rfl),?_⟩⟩;refine ⟨.inl {rfl,_,SqL.of e1},_,rfl,a,_,_,rfl,rfl,e1,by rw[length_map];exact al (),?_⟩;have eap:au (s1.st.getD tt [])++[V.int (i:Int)]=au (s1.st.getD tt []++[i]):=by
   show _=List.map (λ(p:Nat)=>V.int (p:Int)) (s1.st.getD tt []++[i]);rw[map_append];rfl
  rw[eap];have hS6:=hS5.setS ea (s1.st.getD tt []++[i]);obtain ⟨dq6,hq6⟩:=hS6.ins;obtain ⟨rs,em,pm⟩:=hS6.mov;refine {_,rfl,q,_,dq6,_,_,rfl,hq6,T.dI,T.dM,jx _ _ _ _ _,.inl {rfl,_,SqL.of em},?_};refine ⟨_,rfl,(by show 2<=sizeLine;decide),λt' ht'=>⟨mv,_,_,rfl,rfl,ai em ht',?_,?_⟩⟩
  ·rw[length_map,Paired.length pm]
   exact al (by have:=hW.nl;show s1.mv.length<=_;omega)
  have hS7:=hS6.addM ht' (true,tt) em pm;obtain ⟨dq7,hq7⟩:=hS7.ins;have einn:Sh.inn trk s1 i=⟨s1.st.set tt (s1.st.getD tt []++[i]),s1.gone,s1.mv++[(true,tt)]⟩:=by
   unfold Sh.inn;rw[ett]
  refine ⟨_,rfl,q,dq7,_,rfl,hq7,(gF _ _ _ _ _).2.1,H0,q,lv,tr,sk,mv,sks,ord,trk,many,n,Sh.inn trk s1 i,rfl,by rw[einn];exact hS7,hW,by rw[einn];show (s1.st.set _ _).length=_;rw[length_set];exact hsl1,by rw[einn];show (s1.mv++[_]).length<=300+s1.gone;rw[length_append];simp only[length_cons,length_nil];have:=hW.nl;omega,by rw[einn];exact hgl1,λs2 H2 hO hno hS8 h1 h2 h3=>?_⟩;refine {s2,_,_,rfl,.succ hR hO hno,hS8,h1,?_,h3};have hl:=vV hO;rw[einn] at hl;have hl':s2.mv.length+s1.gone=(s1.mv++[(true,tt)]).length+s2.gone:=hl;rw[length_append] at hl';simp only[length_cons,length_nil] at hl'
  omega
 ·rintro σ H1 ⟨s1,v1,v2,rfl,hR,hS1,hsl1,hml1,hgl1⟩
  rw[length_map,hW.tl] at hR hml1;exact kQ s1 H1 hR hS1 hsl1 (by have:=hW.nl;omega) hgl1
inductive eS(Z:Adr)(vs:List V)(H:Hp)(Q:VK)(u3:XK):Prop
 | mk (p dx lv tr:Addr) (many:Nat):vs=[.ref p,.ref lv,.ref tr,.int many]->H p=some (.ins Z.aQ dx [])->many<=100->(∀(sk mv:Addr) (sks:List Addr) (H':Hp),(∀c o,H c=some o->c≠p->H' c=some o)->H' p=some (.ins Z.aQ dx (shf lv tr sk mv 0))->H' sk=some (.lst (sks.map V.ref))->sks.length=many->(∀(t:Nat) (a:Addr),sks[t]?=some a->H' a=some (.lst [])/\H a=none/\a≠mv/\a≠sk)->(∀(t u:Nat) (a b:Addr),sks[t]?=some a->sks[u]?=some b->t≠u->a≠b)->H' mv=some (.lst [])->H sk=none->H mv=none->mv≠sk->Q .non H')->eS Z vs H Q u3
def eU:ak ["self", "leaving", "tracks", "many"] ["self", "leaving", "tracks", "many"] (ah bL):=by o_head AA
def qQ(T:Tx K mg Z):nE P w K mg base CX0 1 "Shunting" Z.aQ ["self", "leaving", "tracks", "many"] (eS Z):=by
 o_head (AD T.dC T.eB eU)
 obtain ⟨p,dx,lv,tr,many,rfl,hp,hm,k⟩:=h
 o_head (AE eU (j (F 0 1) (j (F 0 2) (j (F 0 (V bL ["self", "leaving", "tracks", "many"] [none] ["track"] (J (l 3 a)) (W 0 ["track"]) (z a))) (j (F 0 c) (k (F 0 (z a))))))))
 refine ⟨_,rfl,_,rfl,p,_,dx,_,rfl,hp,T.dI,T.dL,(by show 0<1000;decide),?_⟩;refine ⟨_,rfl,_,rfl,p,_,dx,_,rfl,aa,T.dI,T.dO,(by show 1<1000;decide),?_⟩;refine {_,rfl,(many:Int),rfl,(),(),λsk hsk=>?_};rw[toNat_natCast];rw[re] at hsk ⊢;generalize hH1:upd H p (.ins Z.aQ dx (aL "tracks" (.ref tr) (aL "leaving" (.ref lv) [])))=H1 at hsk ⊢;have hp1:H1 p=some (.ins Z.aQ dx (aL "tracks" (.ref tr) (aL "leaving" (.ref lv) []))):=by rw[<- hH1];exact aa
 have oth:∀c o,H c=some o->c≠p->H1 c=some o:=λc o e hc=>by rw[<- hH1,ae hc];exact e
 have fre:∀c,H1 c=none->H c=none:=λc e=>by
  have hc:c≠p:=λz=>by rw[z,hp1] at e;cases e
  rw[<- hH1,ae hc] at e;exact e
 let Iv1:Nat->St->Hp->Prop:=λi σ H2=>(∃v,σ=[v])/\ag H1 H2/\∃sks:List Addr,sks.length=i/\H2 sk=some (.lst (sks.map V.ref))/\(∀(t:Nat) (a:Addr),sks[t]?=some a->H2 a=some (.lst [])/\H1 a=none/\a≠sk)/\∀(t u:Nat) (a b:Addr),sks[t]?=some a->sks[u]?=some b->t≠u->a≠b
 refine dW (lo:=0) (n:=many) Iv1
  ⟨⟨_,rfl⟩,ag.upd hsk,[],rfl,aa,λt a e=>by simp at e,λt u a b e=>by simp at e⟩ ?_ ?_
 ·rintro i σ H2 hi ⟨⟨v,rfl⟩,s2,sks,hl,h1,h2,h3⟩
  refine {zero_le _,λu hu=>?_};have esu:sk≠u:=af h1 hu;refine ⟨_,ai h1 hu,?_,{_,rfl},ag.updN (s2.trans (ag.upd hu)) hsk,sks++[u],by simp[hl],?_,λt a e=>?_,λt t' a b e e' ne=>?_⟩
  ·rw[length_map,hl]
   exact aw ()
  ·rw[aa,map_append]
   rfl
  ·rcases Thr.eQ e with ⟨_,e⟩ | ⟨_,rfl⟩
   ·obtain ⟨z1,z2,z3⟩:=h2 t a e
    exact ⟨by rw[ae z3];exact ai z1 hu,z2,z3⟩
   ·exact ⟨by rw[ae esu.symm,aa],s2.free hu,esu.symm⟩
  ·rcases Thr.eQ e with ⟨_,e1⟩ | ⟨i1,e1⟩<;>rcases Thr.eQ e' with ⟨_,e2⟩ | ⟨i2,e2⟩
   ·exact h3 t t' a b e1 e2 ne
   ·rw[e2];exact af (h2 t a e1).1 hu
   ·rw[e1];exact (af (h2 t' b e2).1 hu).symm
   ·omega
 ·rintro σ H2 ⟨_,s2,sks,hl,h1,h2,h3⟩
  have hp2:=s2 _ _ hp1;refine ⟨_,rfl,p,_,dx,_,rfl,hp2,T.dI,T.dN,(by show 2<1000;decide),?_⟩;refine ⟨_,rfl,p,_,dx,_,rfl,aa,T.dI,T.dK,(by show 3<1000;decide),?_⟩;refine {zero_le _,λmv hmv=>?_};rw[re] at hmv ⊢;have npm:p≠mv:=af aa hmv;have hm2:H2 mv=none:=by rw[ae npm.symm] at hmv;exact hmv
  refine ⟨_,rfl,p,_,dx,_,rfl,by rw[ae npm,aa],T.dI,T.dM,(by show 4<1000;decide),?_⟩;rw[zh];have nps:p≠sk:=af hp1 hsk;refine k sk mv sks _ (λc o e hc=>?_) aa ?_ hl (λt a e=>?_) h3 ?_ (fre _ hsk) (fre _ (s2.free hm2)) (af h1 hm2).symm
  ·have z:=s2 _ _ (oth c o e hc)
   rw[ae hc,ae (af z hm2),ae hc];exact z
  ·rw[ae nps.symm,ae (af h1 hm2),ae nps.symm]
   exact h1
  ·obtain ⟨z1,z2,z3⟩:=h2 t a e
   have nam:a≠mv:=af z1 hm2;have nap:a≠p:=(af hp1 z2).symm;exact ⟨by rw[ae nap,ae nam,ae nap];exact z1,fre _ z2,nam,z3⟩
  ·rw[ae npm.symm,aa]
inductive eV(Z:Adr)(vs:List V)(H:Hp)(Q:VK)(u3:XK):Prop
 | mk (lv tr:Addr) (ord trk:List Nat) (many n:Nat):vs=[.ref lv,.ref tr,.int many]->H lv=some (.lst (au ord))->H tr=some (.lst (au trk))->zj ord trk many n->many<=100->(∀(q sk mv:Addr) (sks:List Addr) (s:Sh.S) (H':Hp),Sh.Run ord trk many n s->Sk Z H H' q lv tr sk mv sks ord trk s->s.st.length=many->s.mv.length<=600->s.gone<=n->Q (.ref q) H')->eV Z vs H Q u3
def eW:ak ["leaving", "tracks", "many", "shunting"] ["leaving", "tracks", "many"] (ah cX):=by o_head AA
def ka(T:Tx K mg Z):Ctr P w K mg base CX0 5 "shunted_blind" ["leaving", "tracks", "many"] (eV Z):=by
 o_head (AB T.a8 eW)
 obtain ⟨lv,tr,ord,trk,many,n,rfl,hlv,htr,hW,hm,k⟩:=h
 o_head (AE eW (j (o 3 (O (qQ T) (l 0 (l 1 (l 2 a))))) (j (p (M 3 (lI T))) (k (n 3)))))
 refine {_,rfl,_,rfl,_,rfl,λq dq hq hdq hne=>{q,dq,lv,tr,many,rfl,aa,hm,λsk mv sks H3 k1 k2 k3 k4 k5 k6 k7 k8 k9 k10=>{rfl,?_}}};have s3:ag H H3:=λc o e=>k1 c o (by rw[ae (af e hq),ae (af e hdq)];exact e) (af e hq);have fre:∀c,upd (upd H dq (.own q)) q (.ins Z.aQ dq []) c=none->H c=none:=λc e=>by
  have h1:c≠q:=λz=>by rw[z,aa] at e;cases e
  rw[ae h1] at e;have h2:c≠dq:=λz=>by rw[z,aa] at e;cases e
  rw[ae h2] at e;exact e
 have hS:Sk Z H H3 q lv tr sk mv sks ord trk (Sh.init many):=by
  refine ⟨⟨dq,k2⟩,hlv,htr,k3,by rw[k4];exact length_replicate.symm,λt a e=>?_,k6,{[],k7,.nil},hq,fre _ k8,fre _ k9,k10,s3⟩;obtain ⟨z1,z2,z3,z4⟩:=k5 t a e;refine {?_,fre _ z2,z3,z4};rw[z1];show _=some (HO.lst (au ((List.replicate many ([]:List Nat)).getD t [])));rw[getD_eq_getElem?_getD,getElem?_replicate]
  split<;>rfl
 refine {_,rfl,q,dq,_,rfl,k2,(gF _ _ _ _ _).1,H,q,lv,tr,sk,mv,sks,ord,trk,many,n,rfl,hS,hW,λs' H4 hR hS4 h1 h2 h3=>?_};exact {_,rfl,k q sk mv sks s' H4 hR hS4 h1 h2 h3}
def n9(ord:List Nat)(n:Nat):List Int:=(List.range n).map λp=>mx (ord.take (ord.idxOf p))
inductive gG  (vs:List V) (H:Hp) (Q:VK) (u3:XK):Prop
 | mk (lv:Addr) (ord:List Nat) (n:Nat):vs=[.ref lv]->H lv=some (.lst (au ord))->Sh.Ord ord n->ord.length=n->n<=200->(∀l H',ag H H'->H l=none->H' l=some (.lst ((n9 ord n).map V.int))->Q (.ref l) H')->gG  vs H Q u3
def gH:ak ["leaving", "lasts", "last", "place"] ["leaving"] (ah eG):=by o_head AA
def mf(T:Tx K mg Z):Ctr P w K mg base CX0 1 "last_lesser" ["leaving"] gG:=by
 o_head (AB T.a9 gH)
 obtain ⟨lv,ord,n,rfl,hlv,hO,hl,hn,k⟩:=h
 o_head (AE gH (j (o 1 (xw (z (l (y c) a)) (t (l 0 a)))) (j (o 2 (y c)) (j (B (I 0) (U 3) (j (Z 2 (xZ 1 3)) (k (o 2 (xf (l 2 (l 3 a))))))) (k (n 1))))))
 refine ⟨1,rfl,(by show 1<=sizeLine;decide),λe he=>?_⟩;refine ⟨_,rfl,_,_,rfl,.inl {_,SqL.of (ai hlv he),rfl},.inr ⟨e,_,_,rfl,rfl,aa,(),by rw[length_map,hl];omega,?_,λl hl'=>?_⟩⟩
 ·rw[length_map,hl]
  exact Nat.le_of_lt (al (by show 1*_<=_;omega))
 have hnat:((au ord).length:Int).toNat=n:=by rw[length_map,hl];exact toNat_natCast n
 rw[hnat];have s1:ag H (upd (upd H e (.lst [.int (-1)])) l (.lst (List.replicate n [V.int (-1)]).flatten)):=(ag.upd he).trans (ag.upd hl');have hHl:H l=none:=(ag.upd he).free hl';have hrep:(List.replicate n [V.int (-1)]).flatten=(List.replicate n (-1:Int)).map V.int:=by
  rw[map_replicate];clear hnat s1 hl' hO hl hn k
  induction n with
  | zero=>rfl
  | succ n ih=>rw[replicate_succ,flatten_cons,ih,replicate_succ];rfl
 rw[hrep] at s1 ⊢;refine {1,rfl,?_}
 let Iv2:Nat->St->Hp->Prop:=λi σ H2=>∃(L:List Int) (v:Option V),σ=[some (.ref lv),some (.ref l),some (.int (mx (ord.take i))),v]/\ag H H2/\H2 l=some (.lst (L.map V.int))/\L.length=n/\∀(j p:Nat),j<i->ord[j]?=some p->L[p]?=some (mx (ord.take j))
 refine ⟨_,rfl,lv,rfl,{_,SqL.of (s1 _ _ hlv)},eK (K:=K) (a:=lv) (xs:=au ord) Iv2
  ⟨_,none,rfl,s1,aa,length_replicate,λj p hj=>absurd hj (Nat.not_lt_zero _)⟩ (λi σ H2 _ ⟨L,v,z1,z2,z3⟩=>SqL.of (z2 _ _ hlv)) ?_ ?_⟩
 ·rintro i x σ H2 hx ⟨L,v,rfl,s2,h2,hL,hd⟩
  obtain ⟨p,ep,rfl⟩:=aX hx;have hp:=hO.lt ep;refine ⟨_,rfl,_,rfl,_,rfl,l,_,(p:Int),p,rfl,rfl,h2,fu (by rw[length_map,hL];exact hp),?_⟩;refine {_,rfl,_,rfl,_,_,rfl,?_};refine ⟨L.set p (mx (ord.take i)),some (.int (p:Int)),?_,ag.updN s2 hHl,?_,by rw[length_set];exact hL,λj r hj er=>?_⟩
  ·rw[aJ ep,yH]
   rfl
  ·rw[aa,map_set]
  ·rcases lt_or_ge j i with c | c
   ·have hne:p≠r:=λz=>by
     rw[z] at ep;have:=hO.idx ep;have:=hO.idx er;omega
    rw[getElem?_set_ne hne];exact hd j r c er
   ·have:j=i:=()
    subst this;have:p=r:=Option.some.inj (ep.symm.trans er);subst this;rw[getElem?_set_self (by rw[hL];exact hp)]
 ·rintro σ H2 ⟨L,v,rfl,s2,h2,hL,hd⟩
  refine {_,rfl,k l H2 s2 hHl ?_};rw[h2];congr 2;congr 1;refine ext_getElem? λp=>?_;unfold n9;rw[getElem?_map]
  by_cases hp:p<n
  ·rw[getElem?_range hp]
   refine hd _ p ?_ (hO.at_ hp);rw[length_map];exact idxOf_lt_length_iff.mpr ((hO.mem p).mpr hp)
  ·rw[getElem?_eq_none_iff.mpr (),getElem?_eq_none_iff.mpr (by rw[length_range];omega)]
   rfl
inductive iY  (vs:List V) (H:Hp) (Q:VK) (u3:XK):Prop
 | mk (i:_):vs=[.int i]->Q (.bl true) H->iY  vs H Q u3
def iZ:ak ["value"] ["value"] (ah gl):=by o_head AA
def gI(T:Tx K mg Z):Ctr P w K mg base CX0 1 "is_number" ["value"] iY:=by
 o_head (AB T.aU iZ)
 obtain ⟨i,rfl,q⟩:=h
 o_head (AE iZ (k (n (P (u (l 0 (l xo a))) (Q (xd (u (l 0 (l xq a)))))))))
 refine {_,rfl,_,_,_,_,_,rfl,rfl,cS,.int i,aW,_,rfl,dw ?_};refine {_,rfl,_,_,_,_,_,rfl,rfl,cS,.int i,fo,_,rfl,?_};exact q
inductive eX(K:PySem.W.Frag)(vs:List V)(H:Hp)(Q:VK)(u3:XK):Prop
 | mk (a:Addr) (ns:List Int):vs=[.ref a]->SqL K H a (ns.map V.int)->ns.length<200->(∀H',ag H H'->Q (.bl (!decide ns.Nodup)) H')->eX K vs H Q u3
def eY:ak ["wagons", "in_order"] ["wagons"] (ah bJ):=by o_head AA
def fN(T:Tx K mg Z):Ctr P w K mg base CX0 1 "has_two_alike" ["wagons"] (eX K):=by
 o_head (AB T.aW eY)
 obtain ⟨a,ns,rfl,hS,hz,k⟩:=h
 o_head (AE eY (j (o 1 (xk (l 0 a))) (k (n (xi (l (V bJ ["wagons", "in_order"] [none,none] ["less", "greater"] (xX (l 1 (l (xc 1 (S c) i) a))) (N 2 (H (W 0 ["less", "greater"]) (H (W 1 ["less", "greater"]) h))) (xx 0 1)) a))))))
 refine {_,rfl,a,ns,rfl,hS,hz,λl ns' hl hp hs=>?_};refine {_,rfl,_,rfl,_,rfl,l,_,rfl,SqL.of aa,λq hq=>?_};have elq:l≠q:=af aa hq;have ecut:dv (ns'.map V.int) (some 1) none=(ns'.drop 1).map V.int:=by rw[show (1:Int)=((1:Nat):Int) from rfl,gO,map_drop]
 rw[ecut];refine {l,q,rfl,{_,SqL.of (ai aa hq)},{_,SqL.of aa},λp hp'=>?_};have s0:ag H (upd (upd (upd H l (.lst (ns'.map V.int))) q (.lst ((ns'.drop 1).map V.int))) p (.lst [])):=(ag.upd hl).trans ((ag.upd hq).trans (ag.upd hp'));have elp:l≠p:=af (ai aa hq) hp';have eqp:q≠p:=af aa hp';have hH1:H p=none:=((ag.upd (o:=.lst (ns'.map V.int)) hl).trans (ag.upd (o:=.lst ((ns'.drop 1).map V.int)) hq)).free hp'
 let Iv1:Nat->St->Hp->Prop:=λi σ H2=>(∃a b,σ=[a,b])/\ag H H2/\H2 l=some (.lst (ns'.map V.int))/\H2 q=some (.lst ((ns'.drop 1).map V.int))/\H2 p=some (.lst (((adj ns').take i).map V.bl))
 refine mI (K:=K) (xs:=ns'.map V.int) (ys:=(ns'.drop 1).map V.int)
  Iv1
  ⟨⟨_,_,rfl⟩,s0,by rw[ae elp,ae elq,aa],by rw[ae eqp,aa],aa⟩ (λi σ H2 h=>⟨SqL.of h.2.2.1,SqL.of h.2.2.2.1⟩) ?_ ?_
 ·rintro i x y t σ H2 hx hy ⟨⟨a1,b1,rfl⟩,s2,h1,h2,h3⟩ ht
  obtain ⟨z,ez,rfl⟩:=aX hx;obtain ⟨z',ez',rfl⟩:=aX hy;refine {t,_,rfl,SqT.of aa,rfl,_,_,rfl,_,_,rfl,rfl,?_};refine {_,rfl,_,rfl,.inl {rfl,?_}};have e3:upd H2 t (.tup [.int z,.int z']) p=some (.lst (((adj ns').take i).map V.bl)):=ai h3 ht;refine {_,e3,?_,{_,_,rfl},?_,?_,?_,?_}
  ·rw[length_map]
   have:=rY ns';have h64:ns'.length<200:=by rw[hp.length_eq];exact hz
   have:=length_take (i:=i) (l:=adj ns');exact aw ()
  ·intro b o e
   have:b≠p:=af e hH1;rw[ae this,ai (s2 b o e) ht]
  ·rw[ae elp];exact ai h1 ht
  ·rw[ae eqp];exact ai h2 ht
  ·rw[aa,vt ez ez',map_append,yo]
   rfl
 ·rintro σ H2 ⟨_,s2,_,_,h3⟩
  refine {p,adj ns',rfl,SqL.of ?_,?_}
  ·rw[h3,take_of_length_le]
   rw[rY,length_map,length_map,length_drop];exact Nat.le_refl _
  ·rw[mM hs,show decide ns'.Nodup=decide ns.Nodup from decide_eq_decide.mpr hp.nodup_iff]
   exact k H2 s2
inductive eZ  (vs:List V) (H:Hp) (Q:VK) (u3:XK):Prop
 | mk (a:Addr) (ns:List Int):vs=[.ref a]->H a=some (.lst (ns.map V.int))->ns.length<200->ns.Nodup->(∀p H',ag H H'->H p=none->H' p=some (.lst (ns.map V.int))->Q (.ref p) H')->eZ  vs H Q u3
def cD:ak ["train", "held", "wagon", "wagons"] ["train"] (ah bI):=by o_head AA
def kb(T:Tx K mg Z):Ctr P w K mg base CX0 3 "checked_train" ["train"] eZ:=by
 o_head (AB T.aV cD)
 obtain ⟨a,ns,rfl,ha,hz,hnd,k⟩:=h;refine' {_,?hterm,?_}
 case hterm=>
  have c:=cD;refine' aj ?q1 ?q2
  case q1=>
   refine' bU ?q3 ?q4 aS
   case q3=>o_head (w (s (u (l 0 (l xp a)))))
   case' q4=>refine' ax ?q10
   case q10=>exact bE
  case' q2=>refine' aj ?q11 ?q12
  case q11=>o_head (o 1 (R (z a) 0))
  case' q12=>refine' aj ?q15 ?q16
  case q15=>
   refine' kI HP rfl ?q17 ?q18 ?q19
   case q17=>o_head (I 1)
   case q18=>o_head (U 2)
   case' q19=>refine' ax ?q20
   case' q20=>refine' bU ?q21 ?q22 aS
   case q21=>o_head (w (s (r (gI T) (l 2 a))))
   case' q22=>refine' ax ?q26
   case q26=>exact bE
  case' q16=>refine' aj ?q27 ?q28
  case q27=>
   refine' kY (i:=3) cD.nd rfl rfl rfl (kX (sc:=ah bI) (N:=["train", "held", "wagon", "wagons"]) (cap:=[none]) (N':=["wagon"]) rfl rfl ⟨ rfl,by decide +kernel,by decide +kernel,by decide +kernel,rfl,by decide +kernel ⟩) ?q29 (λ_ _ _ _=>?q30) (λ_ _ _ _=>ki) (λ_ _ _ _=>?q31)
   case q29=>o_head (I 1)
   case q30=>o_head (W 0 ["wagon"])
   case q31=>o_head (xm (l 0 a))
  case' q28=>refine' aj ?q33 ?q34
  case q33=>
   refine' bU ?q35 ?q36 aS
   case q35=>o_head (s (r (fN T) (l 3 a)))
   case' q36=>refine' ax ?q39
   case q39=>exact bE
  case q34=>o_head (k (n 3))
 have hz1:ns.length<=1000:=()
 refine {_,rfl,_,_,_,_,_,rfl,rfl,cS,.lst ha,aW,_,rfl,aY ?_};refine {zero_le _,λe he=>{_,rfl,.inr (.inl {e,a,[],ns.map V.int,rfl,rfl,aa,ai ha he,?_,λh hh=>?_})}}
 ·rw[length_nil,length_map,Nat.zero_add]
  exact Nat.le_of_lt (aw hz1)
 have sh:ag H (upd (upd H e (.lst [])) h (.lst (ns.map V.int))):=(ag.upd he).trans (ag.upd hh)
 let Iv2:Nat->St->Hp->Prop:=λi σ H2=>(∃v,σ=[some (.ref a),some (.ref h),v,none])/\H2=upd (upd H e (.lst [])) h (.lst (ns.map V.int))
 refine ⟨_,rfl,h,rfl,{_,SqL.of aa},eK (K:=K) (a:=h) (xs:=ns.map V.int) Iv2
  ⟨⟨_,rfl⟩,rfl⟩ (λi σ H2 _ ⟨_,z⟩=>by rw[z];exact SqL.of aa) ?_ ?_⟩
 ·rintro i x σ H2 hx ⟨⟨v,rfl⟩,rfl⟩
  obtain ⟨z,_,rfl⟩:=aX hx;refine {_,rfl,z,rfl,_,rfl,aY ?_};exact {{_,rfl},rfl}
 rintro σ H2 ⟨⟨v,rfl⟩,rfl⟩;refine {_,rfl,h,rfl,{_,SqL.of aa},λp hp=>?_};have ehp:h≠p:=af aa hp;have hHp:H p=none:=sh.free hp
 let Iv3:Nat->St->Hp->Prop:=λi σ H2=>(∃v,σ=[v])/\ag H H2/\H2 h=some (.lst (ns.map V.int))/\H2 p=some (.lst ((ns.take i).map V.int))
 refine bf (K:=K) (a:=h) (xs:=ns.map V.int) Iv3
  ⟨⟨_,rfl⟩,sh.trans (ag.upd hp),ai aa hp,aa⟩ (λi σ H2 _ h=>SqL.of h.2.2.1) ?_ ?_
 ·rintro i x σ H2 hx ⟨⟨v,rfl⟩,s2,h1,h2⟩
  obtain ⟨z,ez,rfl⟩:=aX hx;refine {_,rfl,.inl {z,rfl,_,h2,?_,{_,rfl},?_,?_,?_}}
  ·rw[length_map,length_take]
   exact aw ()
  ·intro b o e
   rw[ae (af e hHp)];exact s2 b o e
  ·rw[ae ehp];exact h1
  ·rw[aa,aJ ez,map_append]
   rfl
 rintro σ H2 ⟨_,s2,h1,h2⟩;rw[length_map,take_length] at h2;refine {_,rfl,p,ns,rfl,SqL.of h2,hz,λH3 s3=>{_,rfl,?_}};rw[decide_eq_true hnd];refine aY ?_;exact {_,rfl,k p H3 (s2.trans s3) hHp (s3 _ _ h2)}
def odf(a b:Addr):List (Str×V):=[("places",.ref a),("shown",.ref b)]
def zk(a b:Addr):aL "shown" (.ref b) (aL "places" (.ref a) [])=odf a b:=rfl
inductive jP(C:Addr)(vs:List V)(H:Hp)(Q:VK)(u3:XK):Prop
 | mk (p dx a b:Addr) (xs ys:List V):vs=[.ref p,.ref a,.ref b]->H p=some (.ins C dx [])->H a=some (.lst xs)->H b=some (.lst ys)->(∀(u v:Addr) (H':Hp),H' p=some (.ins C dx (odf u v))->(∀c o,H c=some o->c≠p->H' c=some o)->H' u=some (.lst xs)->H' v=some (.lst ys)->H u=none->H v=none->u≠v->Q .non H')->jP C vs H Q u3
def jQ:ak ["self", "places", "shown"] ["self", "places", "shown"] (ah iI):=by o_head AA
def Cz(T:Tx K mg Z):nE P w K mg base CX0 1 "Odd" Z.aJ ["self", "places", "shown"] (jP Z.aJ):=by
 o_head (AD T.cM T.d1 jQ)
 obtain ⟨p,dx,a,b,xs,ys,rfl,hp,ha,hb,k⟩:=h
 o_head (AE jQ (j (F 0 (xl (l 1 a))) (k (F 0 (xl (l 2 a))))))
 have hap:a≠p:=aN ha hp λw=>by cases w
 have hbp:b≠p:=aN hb hp λw=>by cases w
 refine {_,rfl,a,xs,rfl,.inl (SqL.of ha),λu hu=>?_};have hup:u≠p:=(af hp hu).symm;refine ⟨_,rfl,p,_,dx,_,rfl,ai hp hu,T.cN,T.cR,(by show 0<1000;decide),?_⟩;refine ⟨_,rfl,b,ys,rfl,.inl (SqL.of (by rw[ae hbp];exact ai hb hu)),λv hv=>?_⟩;have hvp:v≠p:=(af aa hv).symm;have hv1:upd H u (.lst xs) v=none:=by rw[ae hvp] at hv;exact hv
 refine ⟨_,rfl,p,_,dx,_,rfl,ai aa hv,T.cN,T.cS,(by show 1<1000;decide),?_⟩;rw[zk];refine k u v _ aa (λc o e hc=>?_) ?_ ?_ hu ((ag.upd hu).free hv1) (af aa hv1)
 ·rw[ae hc]
  refine ai ?_ hv;rw[ae hc];exact ai e hu
 ·rw[ae hup]
  refine ai ?_ hv;rw[ae hup,aa]
 ·rw[ae hvp,aa]
inductive mh where
 | sh (mA:Addr) (gs:List Gm)
 | od (pA sA:Addr) (ring shw:List Nat)
def CA(C:Addr)(H:Hp)(p pA sA:Addr)(ring shw:List Nat):Prop:=∃dx,H p=some (.ins C dx (odf pA sA))/\H pA=some (.lst (au ring))/\H sA=some (.lst (au shw))/\pA≠sA
def mh.At(Z:Adr)(H:Hp)(p:Addr):mh->Prop
 | .sh mA gs=>uj Z.aH H p mA gs/\gs.length<=999/\GOk 2 gs
 | .od pA sA ring shw=>CA Z.aJ H p pA sA ring shw
def mh.ok(T:List Int):mh->Prop
 | .sh _ gs=>bu T true 2 gs=true
 | .od _ _ ring shw=>ii T ring shw
def mh.fresh(H:Hp):mh->Prop
 | .sh mA _=>H mA=none
 | .od pA sA _ _=>H pA=none/\H sA=none
inductive wJ(Z:Adr)(vs:List V)(H:Hp)(Q:VK)(u3:XK):Prop
 | mk (a:Addr) (T:List Int):vs=[.ref a]->H a=some (.lst (T.map V.int))->T.Nodup->T.length<200->n0 Z H->(∀(p:Addr) (an:mh) (H':Hp),ag H H'->H p=none->an.At Z H' p->an.ok T->an.fresh H->Q (.ref p) H')->wJ Z vs H Q u3
def i0:ak ["train", "wagons", "leaving", "forest", "shunting", "ring", "lasts"] ["train"] (ah cP):=by o_head AA
def gJ(T:Tx K mg Z):Ctr P w K mg base CX0 7 "two_blind" ["train"] (wJ Z):=by
 o_head (AB T.bA i0)
 obtain ⟨a,tr,rfl,ha,hnd,hz,hTab,k⟩:=h
 o_head (AE i0 (j (o 1 (r (kb T) (l 0 a))) (j (o 2 (r (iU T) (l 1 a))) (j (o 3 (r (jw T) (l 1 (l 2 a)))) (j (o 4 (r (ka T) (l 2 (l (V cP ["train", "wagons", "leaving", "forest", "shunting", "ring", "lasts"] [none] ["depth"] (I (m 3)) (W 0 ["depth"]) (xu 0 c)) (l c a))))) (j (q (s (M 4 (nk T))) (k (n (O (uF T) (l (m 4) a)))) d) (j (o 5 (L 3 (Bs T) (l (M 4 (jy T)) (l (M 4 (zi T)) a)))) (j (X 6 (r (mf T) (l 2 a))) (k (n (O (Cz T) (l 5 (l (V cP ["train", "wagons", "leaving", "forest", "shunting", "ring", "lasts"] [none,none,some 6] ["one", "other", "lasts"] (xX (l 5 (l (R (xc 5 (S c) i) (xc 5 i (S c))) a))) (N 2 (H (W 0 ["one", "other", "lasts"]) (H (W 1 ["one", "other", "lasts"]) h))) (v 2 (xg (l 0 (l 1 a))))) a)))))))))))))
 refine {_,rfl,a,tr,rfl,ha,hz,hnd,λwA H1 s1 f1 h1=>?_};refine {_,rfl,wA,tr,rfl,h1,(),hTab.same s1,λlv H2 ord s2 f2 hR h2=>?_};refine {_,rfl,_,rfl,wA,lv,tr,ord,rfl,s2 _ _ h1,h2,hnd,hR,hz,λq nA dA pA nbs nb dep par rt H0 H3 s3 f3 hF hFo hGr hcom=>?_};have hB:=zQ hnd hR;have ol:ord.length=tr.length:=by rw[hR.perm.length_eq,length_range]
 obtain ⟨dq,hq⟩:=hF.ins;have hdl:=hFo.f.dl;refine {_,rfl,_,rfl,q,_,dq,_,_,rfl,hq,T.c3,T.c4,bz _ _ _,dA,rfl,{_,SqL.of hF.d},λl hl=>?_}
 let trk:List Nat:=dep.map λz=>(z%2).toNat
 let Iv1:Nat->St->Hp->Prop:=λi σ H4=>(∃v,σ=[v])/\ag H3 H4/\H4 l=some (.lst (au (trk.take i)))
 refine bf (K:=K) (a:=dA) (xs:=dep.map V.int) Iv1
  ⟨⟨_,rfl⟩,ag.upd hl,aa⟩ (λi σ H4 _ h=>SqL.of (h.2.1 _ _ hF.d)) ?_ ?_
 ·rintro i x σ H4 hx ⟨⟨v,rfl⟩,s4,h4⟩
  obtain ⟨z,ez,rfl⟩:=aX hx;have hi:=(List.getElem?_eq_some_iff.mp ez).1;refine ⟨_,rfl,_,2,rfl,rfl,(by show (0:Int)<2;decide),?_⟩;refine {_,h4,?_,{_,rfl},ag.updN s4 hl,?_}
  ·rw[length_map,length_take]
   exact al ()
  ·have et:trk[i]?=some (z%2).toNat:=by show (dep.map _)[i]?=_;rw[getElem?_map,ez];rfl
   rw[aa,aJ et,<- ba,Int.toNat_of_nonneg ()]
 rintro σ H4 ⟨_,s4,h4⟩;rw[length_map,take_of_length_le (by show (dep.map _).length<=_;rw[length_map];exact Nat.le_refl _)] at h4;have tg:∀p,p<tr.length->(trk.getD p 0:Int)=Gp.gD dep p%2:=λp hp=>by
  have hp':p<dep.length:=()
  show (((dep.map λz=>(z%2).toNat).getD p 0:Nat):Int)=(dep.getD p (-1))%2;rw[getD_eq_getElem?_getD,getElem?_map,getD_eq_getElem?_getD,List.getElem?_eq_getElem hp'];show (((dep[p]%2).toNat:Nat):Int)=dep[p]%2;exact Int.toNat_of_nonneg ()
 have hW:zj ord trk 2 tr.length:=⟨hR.ord,ol,by show (dep.map _).length=_;rw[length_map];exact hdl,λp hp=>by have:=tg p hp;omega,()⟩;have hlv3:=s3 _ _ h2;refine ⟨lv,l,ord,trk,2,tr.length,rfl,s4 _ _ hlv3,h4,hW,by decide,λq5 sk mv sks st H5 hRun hS hsl hml hgl=>?_⟩;have sH:ag H H5:=(((s1.trans s2).trans s3).trans s4).trans hS.same;obtain ⟨dq5,hq5⟩:=hS.ins;refine {_,rfl,q5,dq5,_,rfl,hq5,(gF _ _ _ _ _).2.2.1,_,q5,lv,l,sk,mv,sks,ord,trk,st,rfl,hS,_,rfl,?_}
 by_cases hd:st.gone=ord.length
 ·refine dX hd ?_
  obtain ⟨rs,em,pm⟩:=hS.mov;refine {_,rfl,q5,_,dq5,_,_,rfl,hq5,T.dI,T.dM,jx _ _ _ _ _,λx dx hx hdx hne=>{x,dx,mv,rs.map V.ref,rfl,aa,?_,λu hu hux=>{rfl,?_}}}
  ·rw[ae (af em hx),ae (af em hdx)]
   exact em
  have hu1:upd H5 dx (.own x) u=none:=by rw[ae hux] at hu;exact hu
  have hux2:u≠dx:=λz=>by rw[z,aa] at hu1;cases hu1
  have hu3:H5 u=none:=by rw[ae hux2] at hu1;exact hu1
  have s6:ag H5 (upd (upd (upd (upd H5 dx (.own x)) x (.ins Z.aH dx [])) u (.lst (rs.map V.ref))) x (.ins Z.aH dx [("moves",.ref u)])):=λc o z=>by
   rw[ae (af z hx),ae (af z hu3),ae (af z hx),ae (af z hdx)];exact z
  refine k x (.sh u (st.mv.map gOf)) _ (sH.trans s6) (sH.free hx) {{dx,_,aa,rfl,rfl,?_},?_,{st.mv,rfl,?_}} ?_ (sH.free hu3)
  ·refine bg.g ⟨rs,by rw[ae hux,aa],Paired.imp (λr m z=>?_) pm⟩
   exact s6 _ _ z
  ·rw[length_map];omega
  ·exact mX hW.tm hW.o hRun (Nat.le_refl _)
  ·exact qG hnd hR rfl hW.tm hRun hd
 ·refine dB hd ?_
  have hlt:st.gone<tr.length:=()
  obtain ⟨fp,cp,kk,ef,hf,ek,ec,hk',hfc,hc,htc,hidx,qq,wd,hqq,ewd,hcw⟩:=Sh.yD hW.o hW.tm hRun hlt;have hF5:=hF.sameH (s4.trans hS.same);obtain ⟨dqf,hqf⟩:=hF5.ins;have hod:Gp.Od tr fp cp:=by
   refine {hfc,hR.lt hnd _ _ fp cp hidx (hW.o.at_ hf) (hW.o.at_ hc),wd,hcw,hW.o.lt ewd,?_};exact hR.lt hnd qq st.gone wd fp hqq ewd ef
  have hrt:=hFo.conn (qP hGr) hf (hcom fp cp hod);obtain ⟨jj,_⟩:=Sh.J.run hW.o hW.tm hRun (Nat.le_refl _);refine {_,rfl,q,dqf,_,rfl,hqf,(qO _ _ _).2.2,?_};refine {_,rfl,q5,dq5,_,rfl,hq5,(gF _ _ _ _ _).2.2.2.1,_,q5,lv,l,sk,mv,sks,ord,trk,st,fp,rfl,hS,ef,?_};refine ⟨_,rfl,q5,dq5,_,rfl,hq5,(gF _ _ _ _ _).2.2.2.2,_,q5,lv,l,sk,mv,sks,ord,trk,st,fp,cp,kk,rfl,hS,ef,by rw[hW.tl];exact hf,by rw[hsl];exact hW.tm fp hf,ek,ec,hk',?_,?_,?_⟩
  ·intro x hx
   have:=((jj.here _ x).mp hx).1;omega
  ·have hnd2:(st.st.getD (trk.getD fp 0) []).Nodup:=by
    rw[List.nodup_iff_pairwise_ne];exact (ge (λk a b h1 h2=>jj.up _ k a b h1 h2)).imp λh=>Nat.ne_of_lt h
   have:=List.Nodup.length_le_of_subset hnd2 (l₂:=List.range tr.length) λp hp=>mem_range.mpr ((jj.here _ p).mp hp).1;rw[length_range] at this;omega
  refine {H0,q,nA,dA,pA,nbs,nb,dep,par,tr.length,fp,cp,rt,rfl,hF5,qP hGr,(),hFo,hf,hc,hrt,λl6 H6 ring z s6 f6 h6 hRing hlen=>?_};have hlv6:=s6 _ _ (hS.same _ _ (s4 _ _ hlv3));refine {_,rfl,lv,ord,tr.length,rfl,hlv6,hW.o,ol,(),λl7 H7 s7 f7 h7=>?_};have h67:=s7 _ _ h6;have hodd:ring.length%2=1:=by
   have h1:=tg fp hf;have h2:=tg cp hc;rw[htc] at h2;omega
  obtain ⟨shw,eshw,hok⟩:=Bl hB hGr hRing hod hodd;have rl:ring.length<=tr.length:=by
   have:=List.Nodup.length_le_of_subset hRing.nd (l₂:=List.range tr.length) λp hp=>mem_range.mpr (hRing.lt p hp);rw[length_range] at this;exact this
  have ec1:dv (au ring) (some 1) none=au (ring.drop 1):=by
   rw[show (1:Int)=((1:Nat):Int) from rfl,gO];exact map_drop.symm
  have ec2:dv (au ring) none (some 1)=au (ring.take 1):=by
   rw[show (1:Int)=((1:Nat):Int) from rfl,nF];exact List.map_take.symm
  refine {_,rfl,_,rfl,_,rfl,_,rfl,l6,_,rfl,SqL.of h67,λu hu=>?_};rw[ec1];have s8:=ag.upd (o:=.lst (au (ring.drop 1))) hu;refine {_,rfl,_,rfl,l6,_,rfl,SqL.of (s8 _ _ h67),λv hv=>?_};rw[ec2];have s9:=ag.upd (o:=.lst (au (ring.take 1))) hv;refine .inr (.inl {u,v,_,_,rfl,rfl,s9 _ _ aa,aa,?_,λx hx=>?_})
  ·rw[length_map,length_map,length_drop,length_take]
   exact Nat.le_of_lt (al ())
  have erot:au (ring.drop 1)++au (ring.take 1)=au (rot ring):=by
   unfold rot;exact map_append.symm
  rw[erot];have s10:=ag.upd (o:=.lst (au (rot ring))) hx;have s710:=(s8.trans s9).trans s10;generalize hH8:upd (upd (upd H7 u (.lst (au (ring.drop 1)))) v (.lst (au (ring.take 1)))) x (.lst (au (rot ring)))=H8 at s710 ⊢;have hx8:H8 x=some (.lst (au (rot ring))):=by rw[<- hH8];exact aa
  have h68:=s710 _ _ h67;have h78:=s710 _ _ h7;refine {l6,x,rfl,{_,SqL.of h68},{_,SqL.of hx8},λp hp=>?_}
  let Iv2:Nat->St->Hp->Prop:=λi σ H9=>(∃a b,σ=[a,b,some (.ref l7)])/\ag H8 H9/\H9 p=some (.lst (((shI ord ring).take i).map V.int))
  refine mI (K:=K) (xs:=au ring) (ys:=au (rot ring))
   Iv2
   ⟨⟨_,_,rfl⟩,ag.upd hp,aa⟩ (λi σ H9 h=>⟨SqL.of (h.2.1 _ _ h68),SqL.of (h.2.1 _ _ hx8)⟩) ?_ ?_
  ·rintro i x1 y1 t σ H9 hx1 hy1 ⟨⟨a1,b1,rfl⟩,s11,h11⟩ ht
   obtain ⟨a2,ea2,rfl⟩:=aX hx1;obtain ⟨b2,eb2,rfl⟩:=aX hy1;have ha2:=hRing.lt a2 (mem_of_getElem? ea2);have st:=ag.upd (o:=.tup [.int (a2:Int),.int (b2:Int)]) ht;have emin:(if (b2:Int)<(a2:Int) then (b2:Int) else (a2:Int))=((min a2 b2:Nat):Int):=by split<;>omega
   have hlast:(n9 ord tr.length)[min a2 b2]?=some (mx (ord.take (ord.idxOf (min a2 b2)))):=by
    unfold n9;rw[getElem?_map,getElem?_range ()];rfl
   refine {t,_,rfl,SqT.of aa,rfl,_,_,rfl,_,_,rfl,rfl,?_};refine ⟨_,rfl,_,rfl,_,rfl,_,_,rfl,.inl ⟨l7,_,((min a2 b2:Nat):Int),.int (mx (ord.take (ord.idxOf (min a2 b2)))),rfl,congrArg V.int emin,SqL.of (st _ _ (s11 _ _ h78)),am (by rw[getElem?_map,hlast];rfl),?_⟩⟩;have esh:(shI ord ring)[i]?=some (mx (ord.take (ord.idxOf (min a2 b2)))):=by
    unfold shI;rw[getElem?_map,List.getElem?_zip_eq_some (z:=(a2,b2)) |>.mpr ⟨ea2,eb2⟩];rfl
   refine {_,st _ _ h11,?_,{_,_,rfl},ag.updN (s11.trans st) hp,?_}
   ·rw[length_map,length_take]
    have:(shI ord ring).length<=ring.length:=by unfold shI;rw[length_map,length_zip];omega
    exact al ()
   ·rw[aa,aJ esh,map_append]
    rfl
  rintro σ H9 ⟨_,s11,h11⟩;rw[length_map,length_map,nY,min_self,take_of_length_le (by unfold shI;rw[length_map,length_zip];omega),eshw,map_map] at h11;have h69:=s11 _ _ h68;have hp9:H9 p=some (.lst (au shw)):=h11;refine λy dy hy hdy hne=>{y,dy,l6,p,au ring,au shw,rfl,aa,?_,?_,λu2 v2 H10 k1 k2 k3 k4 k5 k6 k7=>{rfl,?_}}
  ·rw[ae (af h69 hy),ae (af h69 hdy)]
   exact h69
  ·rw[ae (af hp9 hy),ae (af hp9 hdy)]
   exact hp9
  have sF:ag H H9:=((sH.trans s6).trans s7).trans (s710.trans s11);have fre:∀c,upd (upd H9 dy (.own y)) y (.ins Z.aJ dy []) c=none->H c=none:=λc e=>by
   have h1:c≠y:=λz=>by rw[z,aa] at e;cases e
   rw[ae h1] at e;have h2:c≠dy:=λz=>by rw[z,aa] at e;cases e
   rw[ae h2] at e;exact sF.free e
  refine k y (.od u2 v2 ring shw) H10 (sF.trans λc o e=>k2 c o ?_ (af e hy)) (sF.free hy) ⟨dy,k1,k3,k4,k7⟩ hok {fre _ k5,fre _ k6};rw[ae (af e hy),ae (af e hdy)];exact e
inductive e6  (vs:List V) (H:Hp) (Q:VK) (u3:XK):Prop
 | mk (t n:Int):vs=[.int t,.int n]->0<=t->t<n->Q (.int t) H->e6  vs H Q u3
def e7:ak ["track", "many", "place"] ["track", "many"] (ah cT):=by o_head AA
def kc(T:Tx K mg Z):Ctr P w K mg base CX0 2 "checked_track" ["track", "many"] e6:=by
 o_head (AB T.a1 e7)
 obtain ⟨t,n,rfl,h1,h2,q⟩:=h;refine' {_,?hterm,?_}
 case hterm=>
  have c:=e7;refine' aj ?q1 ?q2
  case q1=>
   refine' bU ?q3 ?q4 aS
   case q3=>o_head (w (s (r (gI T) (l 0 a))))
   case' q4=>refine' ax ?q8
   case q8=>exact bE
  case' q2=>refine' aj ?q9 ?q10
  case q9=>o_head (o 2 (xm (l 0 a)))
  case' q10=>refine' aj ?q13 ?q14
  case q13=>
   refine' bU ?q15 ?q16 aS
   case q15=>o_head (C (x (xH 2 c) (G (xL 2 1))))
   case' q16=>refine' ax ?q21
   case q21=>exact bE
  case q14=>o_head (k (n 2))
 refine {_,rfl,t,rfl,_,rfl,aY ?_};refine {_,rfl,.inl {t,rfl,?_}};refine {_,rfl,t,0,rfl,rfl,_,rfl,?_};rw[decide_eq_false (show ¬ t<0 by omega)];refine aY {_,rfl,_,rfl,t,n,rfl,rfl,_,rfl,?_};rw[decide_eq_false (show ¬ n<=t by omega)];exact aY {_,rfl,q}
inductive fO  (vs:List V) (H:Hp) (Q:VK) (u3:XK):Prop
 | mk (b:_):vs=[.str (ft b)]->(∀H',ag H H'->Q (.str (ft b)) H')->fO  vs H Q u3
def cY:ak ["word", "plain"] ["word"] (ah dE):=by o_head AA
def lJ(T:Tx K mg Z):Ctr P w K mg base CX0 1 "checked_word" ["word"] fO:=by
 o_head (AB T.a0 cY)
 obtain ⟨b,rfl,k⟩:=h;refine' {_,?hterm,?_}
 case hterm=>
  have c:=cY;refine' aj ?q1 ?q2
  case q1=>
   refine' bU ?q3 ?q4 aS
   case q3=>o_head (w (s (u (l 0 (l xs a)))))
   case' q4=>refine' ax ?q10
   case q10=>exact bE
  case' q2=>refine' aj ?q11 ?q12
  case q11=>
   refine' kB (i:=1) cY.nd rfl (Or.inl rfl) ?q13
   case' q13=>refine' lg (K:=K) (by rfl) PySem.F.plainAttrs_str PySem.F.slot_str_join PySem.F.type_str_join (vp (K:=K) (by rfl)) uM ?q14
   case q14=>o_head (l (z (l 0 a)) a)
  case' q12=>refine' aj ?q17 ?q18
  case q17=>
   refine' bU ?q19 ?q20 aS
   case q19=>
    refine' bV (mK (K:=K) (by rfl)) (pv 1) ?q21 (by with_unfolding_all rfl)
    case q21=>exact rV (by rfl) T.e8.1
   case' q20=>refine' ax ?q22
   case q22=>exact bE
  case q18=>o_head (k (n 1))
 refine {_,rfl,_,_,_,_,_,rfl,rfl,cS,.str _,aW,_,rfl,aY ?_};refine ⟨rfl,_,rfl,(by show 1<=sizeLine;decide),λl hl=>⟨_,l,[ft b],rfl,rfl,SqL.of aa,?_,?_⟩⟩
 ·have:=vG b
  show ((ft b).length+0)+1*0<=16777216;omega
 rw[vF];refine {_,rfl,Z.aR,_,rfl,.inr (T.e8.2 _),rfl,rfl,_,rfl,?_};rw[yx];exact aY {_,rfl,k _ (ag.upd hl)}
inductive fP  (vs:List V) (H:Hp) (Q:VK) (u3:XK):Prop
 | mk (m:Addr) (b:Bool) (t n:Int):vs=[.ref m,.int n]->H m=some (.tup [.str (ft b),.int t])->0<=t->t<n->(∀p H',ag H H'->H p=none->H' p=some (.tup [.str (ft b),.int t])->Q (.ref p) H')->fP  vs H Q u3
def fQ:ak ["move", "many", "pair"] ["move", "many"] (ah dD):=by o_head AA
def lK(T:Tx K mg Z):Ctr P w K mg base CX0 3 "checked_move" ["move", "many"] fP:=by
 o_head (AB T.aY fQ)
 obtain ⟨m,b,t,n,rfl,hm,h1,h2,k⟩:=h;refine' {_,?hterm,?_}
 case hterm=>
  have c:=fQ;refine' aj ?q1 ?q2
  case q1=>
   refine' bU ?q3 ?q4 aS
   case q3=>o_head (w (s (u (l 0 (l xr a)))))
   case' q4=>refine' ax ?q10
   case q10=>exact bE
  case' q2=>refine' aj ?q11 ?q12
  case q11=>o_head (o 2 (R (A a) 0))
  case' q12=>refine' aj ?q15 ?q16
  case q15=>
   refine' bU ?q17 ?q18 aS
   case q17=>o_head (xG (t (l 2 a)) c)
   case' q18=>refine' ax ?q21
   case q21=>exact bE
  case q16=>o_head (k (n (A (l (r (lJ T) (l (v 2 c) a)) (l (r (kc T) (l (v 2 c) (l 1 a))) a)))))
 refine {_,rfl,_,_,_,_,_,rfl,rfl,cS,.tup hm,aW,_,rfl,aY ?_};refine ⟨zero_le _,λe he=>⟨_,rfl,.inr (.inr (.inl ⟨e,m,[],_,rfl,rfl,SqT.of aa,SqT.of (ai hm he),(by show 0+2<=sizeLine;decide),λ_=>?_,λz=>absurd rfl z,λz=>absurd rfl z⟩))⟩⟩;have hm1:upd H e (.tup []) m=some (.tup [.str (ft b),.int t]):=ai hm he;refine {_,rfl,_,2,rfl,.inr {_,SqT.of hm1,rfl},.inl {rfl,_,rfl,rN rfl ?_}};refine {_,rfl,.inr {m,_,0,_,rfl,rfl,SqT.of hm1,rfl,b,rfl,λH2 s2=>?_}};refine ⟨_,rfl,.inr ⟨m,_,1,_,rfl,rfl,SqT.of (s2 _ _ hm1),rfl,_,rfl,t,n,rfl,h1,h2,(by show 2<=sizeLine;decide),λp hp=>?_⟩⟩;have s3:ag H H2:=(ag.upd he).trans s2
 exact k p _ (s3.trans (ag.upd hp)) (s3.free hp) aa
inductive ij(K:PySem.W.Frag)(vs:List V)(H:Hp)(Q:VK)(u3:XK):Prop
 | mk (pA tA:Addr) (ps:List Int) (xs:List V):vs=[.ref pA,.ref tA]->H pA=some (.lst (ps.map V.int))->ps.length<=1000->H tA=some (.lst xs)->(∀H',ag H H'->Q (.bl (inb xs.length ps)) H')->ij K vs H Q u3
def il:ak ["places", "train"] ["places", "train"] (ah dm):=by o_head AA
def i4(T:Tx K mg Z):Ctr P w K mg base CX0 2 "are_places" ["places", "train"] (ij K):=by
 o_head (AB T.a5 il)
 obtain ⟨pA,tA,ps,xs,rfl,hp,hz,ht,kQ⟩:=h
 o_head (AE il (k (n (xh (l (V dm ["places", "train"] [none,some 1] ["place", "train"] (I 0) (W 0 ["place", "train"]) (P (r (gI T) (l 0 a)) (Q (xP rm hZ c 0 (t (l 1 a)))))) a)))))
 refine {_,rfl,pA,rfl,{_,SqL.of hp},λl hl=>?_}
 let Iv1:Nat->St->Hp->Prop:=λi σ H2=>(∃v,σ=[v,some (.ref tA)])/\ag H H2/\H2 l=some (.lst (((ps.take i).map λ(p:Int)=>decide (0<=p)&&decide (p<(xs.length:Int))).map V.bl))
 refine bf (K:=K) (a:=pA) (xs:=ps.map V.int) Iv1
  ⟨⟨_,rfl⟩,ag.upd hl,aa⟩ (λi σ H2 _ h=>SqL.of (h.2.1 _ _ hp)) ?_ ?_
 ·rintro i x σ H2 hx ⟨⟨v,rfl⟩,s2,h2⟩
  obtain ⟨z,ez,rfl⟩:=aX hx;have fin:∀c:Bool,c=(decide (0<=z)&&decide (z<(xs.length:Int)))->∃ys,H2 l=some (.lst ys)/\ys.length<sizeLine/\((∃v,[some (V.int z),some (V.ref tA)]=[v,some (.ref tA)])/\ag H (upd H2 l (.lst (ys++[.bl c])))/\upd H2 l (.lst (ys++[.bl c])) l=some (.lst (((ps.take (i+1)).map λ(p:Int)=>decide (0<=p)&&decide (p<(xs.length:Int))).map V.bl))):=by
   intro c hc;refine {_,h2,?_,{_,rfl},ag.updN s2 hl,?_}
   ·rw[length_map,length_map,length_take]
    exact aw ()
   ·rw[aa,aJ ez,map_append,map_append,hc]
    rfl
  refine {_,rfl,z,rfl,_,rfl,dw ?_};refine {_,rfl,0,z,rfl,rfl,_,rfl,?_}
  by_cases h0:(0:Int)<=z
  ·rw[decide_eq_true h0]
   refine dw {_,rfl,_,_,rfl,.inl {_,SqL.of (s2 _ _ ht),rfl},z,_,rfl,rfl,?_};exact fin _ (by rw[decide_eq_true h0,Bool.true_and])
  ·rw[decide_eq_false h0]
   exact aY (fin _ (by rw[decide_eq_false h0,Bool.false_and]))
 ·rintro σ H2 ⟨_,s2,h2⟩
  rw[length_map,take_length] at h2;refine {l,_,rfl,SqL.of h2,?_};have:=kQ H2 s2;unfold inb at this;rw[List.all_map];exact this
def jz{T:List Int}{p:Nat}(h:p<T.length):atI (T.map V.int) (p:Int)=some (.int (T.getD p 0)):=by
 refine am ?_;rw[getElem?_map,List.getElem?_eq_getElem h,getD_eq_getElem?_getD,List.getElem?_eq_getElem h];rfl
def sJ(a b:Nat):(if (b:Int)<(a:Int) then (b:Int) else (a:Int))=((min a b:Nat):Int):=by split<;>omega
def sK(a b:Nat):(if (b:Int)>(a:Int) then (b:Int) else (a:Int))=((max a b:Nat):Int):=by split<;>omega
inductive jR  (vs:List V) (H:Hp) (Q:VK) (u3:XK):Prop
 | mk (a b s:Nat) (tA:Addr) (T:List Int):vs=[.int (a:Int),.int (b:Int),.int (s:Int),.ref tA]->H tA=some (.lst (T.map V.int))->Yd.fZ T a b s->Q (.bl true) H->jR  vs H Q u3
def jS:ak ["one", "other", "shower", "train", "earlier", "later"] ["one", "other", "shower", "train"] (ah iH):=by o_head AA
def qR(T:Tx K mg Z):Ctr P w K mg base CX0 1 "is_shown" ["one", "other", "shower", "train"] jR:=by
 o_head (AB T.a6 jS)
 obtain ⟨a,b,s,tA,tr,rfl,hT,⟨h1,h2,h3,h4,h5⟩,kQ⟩:=h
 o_head (AE jS (j (o 4 (xg (l 0 (l 1 a)))) (j (o 5 (xf (l 0 (l 1 a)))) (k (n (P (xz 5 2) (Q (xP hZ hZ (v 3 2) (v 3 4) (v 3 5)))))))))
 refine {_,rfl,_,rfl,_,_,rfl,?_};rw[sJ];refine {_,rfl,_,rfl,_,_,rfl,?_};rw[sK];refine {_,rfl,_,rfl,_,_,rfl,rfl,_,rfl,?_};refine dX () ?_;refine {_,rfl,_,rfl,.inl {tA,_,(s:Int),_,rfl,rfl,SqL.of hT,jz h3,?_}};refine {_,rfl,_,rfl,.inl {tA,_,((min a b:Nat):Int),_,rfl,rfl,SqL.of hT,jz (),?_}};refine {_,_,rfl,rfl,_,rfl,?_};refine dX h4 ?_;refine {_,rfl,_,rfl,.inl {tA,_,((max a b:Nat):Int),_,rfl,rfl,SqL.of hT,jz (),?_}};refine {_,_,rfl,rfl,(show Q (.bl (decide (tr.getD (min a b) 0<tr.getD (max a b) 0))) H from ?_)};rw[decide_eq_true h5];exact kQ
def bA(a b:Addr):(odf a b).lookup ("places":Str)=some (.ref a):=rfl
def e9(a b:Addr):(odf a b).lookup ("shown":Str)=some (.ref b):=rfl
inductive i5(C:Addr)(vs:List V)(H:Hp)(Q:VK)(u3:XK):Prop
 | mk (p pA sA tA:Addr) (ring shw:List Nat) (T:List Int):vs=[.ref p,.ref tA]->CA C H p pA sA ring shw->H tA=some (.lst (T.map V.int))->T.length<200->ring.length<200->3<=ring.length->ring.length%2=1->((ii T ring shw/\∀H',ag H H'->Q (.bl true) H')\/(shw.length≠ring.length/\∀H',ag H H'->Q (.bl false) H'))->i5 C vs H Q u3
def i6:ak ["self", "train", "many", "turned"] ["self", "train"] (ah dZ):=by o_head AA
def m_Odd_shows(T:Tx K mg Z):df P w K mg base CX0 7 Z.aJ "shows" ["self", "train"] (i5 Z.aJ):=by
 o_head (AC T.cN T.d2 i6)
 obtain ⟨p,pA,sA,tA,ring,shw,tr,rfl,⟨dx,h1,h2,h3,h4⟩,hT,hz,hrl,hr3,hodd,kQ⟩:=h
 o_head (AE i6 (j (o 2 (t (l (m 0) a))) (j (q (C (x (xH 2 c) (x (xF (xu 2 c) c) (G (xG (t (l (m 0) a)) 2))))) (k (n e)) d) (j (q (C (x (w (s (r (i4 T) (l (m 0) (l 1 a))))) (x (w (s (r (i4 T) (l (m 0) (l 1 a))))) (G (s (r (fN T) (l (m 0) a))))))) (k (n e)) d) (j (o 3 (R (xc (m 0) (S c) i) (xc (m 0) i (S c)))) (k (n (xh (l (V dZ ["self", "train", "many", "turned"] [none,none,none,some 1] ["one", "other", "shower", "train"] (xY (l (m 0) (l 3 (l (m 0) a)))) (N 3 (H (W 0 ["one", "other", "shower", "train"]) (H (W 1 ["one", "other", "shower", "train"]) (H (W 2 ["one", "other", "shower", "train"]) h)))) (r (qR T) (l 0 (l 1 (l 2 (l 3 a)))))) a)))))))))
 refine {_,rfl,p,_,dx,_,_,rfl,h1,T.cN,T.cR,bA _ _,_,_,rfl,.inl {_,SqL.of h2,rfl},?_};have hm:((au ring).length:Int)=(ring.length:Int):=by rw[length_map]
 rw[hm];refine {_,rfl,_,_,rfl,rfl,_,rfl,?_};refine dB () ?_;refine ⟨_,rfl,_,2,rfl,rfl,(by show (0:Int)<2;decide),.inl ⟨rfl,_,rfl,?_⟩⟩;refine dB (λz=>by have:=V.int.inj z;omega) ?_;refine {_,rfl,p,_,dx,_,_,rfl,h1,T.cN,T.cS,e9 _ _,_,_,rfl,.inl {_,SqL.of h3,rfl},_,rfl,.inl {rfl,_,rfl,?_}};have hs:((au shw).length:Int)=(shw.length:Int):=by rw[length_map]
 rw[hs];rcases kQ with ⟨hok,kQ⟩ | ⟨hne,kQ⟩
 ·have hlen:=hok.len
  rw[hlen];refine fX rfl ?_;have mem1:∀x∈ring,x<tr.length:=λx hx=>by
   obtain ⟨k,hk,e⟩:=getElem_of_mem hx;obtain ⟨a1,a2,a3,_⟩:=hok.at_ k hk;rw[getD_eq_getElem?_getD,List.getElem?_eq_getElem hk] at a2;have:ring[k]<=max ring[k] (ring.getD ((k+1)%ring.length) 0):=Nat.le_max_left _ _;have a2':max ring[k] (ring.getD ((k+1)%ring.length) 0)<shw.getD k 0:=a2;omega
  have mem2:∀x∈shw,x<tr.length:=λx hx=>by
   obtain ⟨k,hk,e⟩:=getElem_of_mem hx;obtain ⟨a1,a2,a3,_⟩:=hok.at_ k ();rw[getD_eq_getElem?_getD (l:=shw),List.getElem?_eq_getElem hk] at a3;have a3':shw[k]<tr.length:=a3;omega
  have in1:inb (tr.map V.int).length (ring.map λ(p:Nat)=>(p:Int))=true:=sD (by rw[length_map];exact mem1);have in2:inb (tr.map V.int).length (shw.map λ(p:Nat)=>(p:Int))=true:=sD (by rw[length_map];exact mem2);refine ⟨_,rfl,p,_,dx,_,_,rfl,h1,T.cN,T.cR,bA _ _,_,rfl,pA,tA,ring.map (λ(p:Nat)=>(p:Int)),_,rfl,by rw[h2,eO],by rw[length_map];omega,hT,λH1 s1=>⟨_,rfl,?_⟩⟩;rw[in1];refine aY ?_;refine ⟨_,rfl,p,_,dx,_,_,rfl,s1 _ _ h1,T.cN,T.cS,e9 _ _,_,rfl,sA,tA,shw.map (λ(p:Nat)=>(p:Int)),_,rfl,by rw[s1 _ _ h3,eO],by rw[length_map];omega,s1 _ _ hT,λH2 s2=>⟨_,rfl,?_⟩⟩
  rw[in2];refine aY ?_;have s12:=s1.trans s2;refine ⟨_,rfl,p,_,dx,_,_,rfl,s12 _ _ h1,T.cN,T.cR,bA _ _,pA,ring.map (λ(p:Nat)=>(p:Int)),rfl,SqL.of (by rw[s12 _ _ h2,eO]),by rw[length_map];omega,λH3 s3=>⟨_,rfl,?_⟩⟩;have hnd:(ring.map λ(p:Nat)=>(p:Int)).Nodup:=by
   rw[List.nodup_iff_pairwise_ne,pairwise_map];exact (List.nodup_iff_pairwise_ne.mp hok.nd).imp λh z=>h ()
  rw[decide_eq_true hnd];refine aY ?_;have s13:=s12.trans s3;have ec1:dv (au ring) (some 1) none=au (ring.drop 1):=by
   rw[show (1:Int)=((1:Nat):Int) from rfl,gO];exact map_drop.symm
  have ec2:dv (au ring) none (some 1)=au (ring.take 1):=by
   rw[show (1:Int)=((1:Nat):Int) from rfl,nF];exact List.map_take.symm
  refine {_,rfl,p,_,dx,_,_,rfl,s13 _ _ h1,T.cN,T.cR,bA _ _,_,rfl,pA,_,rfl,SqL.of (s13 _ _ h2),λu hu=>?_};rw[ec1];have s4:=ag.upd (o:=.lst (au (ring.drop 1))) hu;have s14:=s13.trans s4;refine {_,rfl,p,_,dx,_,_,rfl,s14 _ _ h1,T.cN,T.cR,bA _ _,_,rfl,pA,_,rfl,SqL.of (s14 _ _ h2),λv hv=>?_};rw[ec2];have s5:=ag.upd (o:=.lst (au (ring.take 1))) hv;refine .inr (.inl {u,v,_,_,rfl,rfl,s5 _ _ aa,aa,?_,λx hx=>?_})
  ·rw[length_map,length_map,length_drop,length_take]
   exact Nat.le_of_lt (al ())
  have erot:au (ring.drop 1)++au (ring.take 1)=au (rot ring):=by
   unfold rot;exact map_append.symm
  rw[erot];have s6:=ag.upd (o:=.lst (au (rot ring))) hx;have s16:=(s14.trans s5).trans s6;generalize hH4:upd (upd (upd H3 u (.lst (au (ring.drop 1)))) v (.lst (au (ring.take 1)))) x (.lst (au (rot ring)))=H4 at s16 ⊢;have hx4:H4 x=some (.lst (au (rot ring))):=by rw[<- hH4];exact aa
  refine {_,rfl,p,_,dx,_,_,rfl,s16 _ _ h1,T.cN,T.cR,bA _ _,_,rfl,_,rfl,p,_,dx,_,_,rfl,s16 _ _ h1,T.cN,T.cS,e9 _ _,pA,x,sA,rfl,{_,SqL.of (s16 _ _ h2)},{_,SqL.of hx4},{_,SqL.of (s16 _ _ h3)},λl hl=>?_}
  let Iv1:Nat->St->Hp->Prop:=λi σ H9=>(∃a b c,σ=[a,b,c,some (.ref tA)])/\ag H4 H9/\H9 l=some (.lst ((List.replicate i true).map V.bl))/\i<=ring.length
  refine qL (K:=K) (xs:=au ring) (ys:=au (rot ring)) (zs:=au shw)
   Iv1
   ⟨⟨_,_,_,rfl⟩,ag.upd hl,aa,zero_le _⟩ (by rw[length_map,length_map,nY]) (by rw[length_map,length_map,hlen]) (λi σ H9 h=>⟨SqL.of (h.2.1 _ _ (s16 _ _ h2)),SqL.of (h.2.1 _ _ hx4),SqL.of (h.2.1 _ _ (s16 _ _ h3))⟩) ?_ ?_
  ·rintro i x1 y1 z1 t σ H9 hx1 hy1 hz1 ⟨⟨a1,b1,c1,rfl⟩,s11,h11,hi⟩ ht
   obtain ⟨a2,ea2,rfl⟩:=aX hx1;obtain ⟨b2,eb2,rfl⟩:=aX hy1;obtain ⟨c2,ec2,rfl⟩:=aX hz1;have hi2:=(List.getElem?_eq_some_iff.mp ea2).1;have st:=ag.upd (o:=.tup [.int (a2:Int),.int (b2:Int),.int (c2:Int)]) ht;refine {t,_,rfl,SqT.of aa,rfl,_,_,rfl,_,_,rfl,_,_,rfl,rfl,?_};have hat:=hok.at_ i hi2;rw[sC hi2] at eb2;rw[getD_eq_getElem?_getD,ea2,getD_eq_getElem?_getD,eb2,getD_eq_getElem?_getD,ec2] at hat;refine {_,rfl,_,rfl,_,rfl,_,rfl,a2,b2,c2,tA,tr,rfl,st _ _ (s11 _ _ (s16 _ _ hT)),hat,?_};refine {_,st _ _ h11,?_,{_,_,_,rfl},ag.updN (s11.trans st) hl,?_,hi2}
   ·rw[length_map,length_replicate]
    exact al ()
   ·rw[aa,replicate_succ',map_append]
    rfl
  rintro σ H9 ⟨_,s11,h11,_⟩;refine {l,_,rfl,SqL.of h11,?_};rw[show (List.replicate (au ring).length true).all _root_.id=true from by simp];exact kQ H9 (s16.trans s11)
 ·refine sd (λz=>hne (by have:=V.int.inj z;omega)) ?_
  exact kQ H (ag.refl _)
inductive fb  (vs:List V) (H:Hp) (Q:VK) (u3:XK):Prop
 | mk (a:Addr) (ms:List Yd.Mv) (n:Nat):vs=[.ref a,.int n]->bg H a ms->ms.length<=1000->(∀m∈ms,m.2<n)->(∀p H',ag H H'->H p=none->bg H' p ms->Q (.ref p) H')->fb  vs H Q u3
def fc:ak ["moves", "many"] ["moves", "many"] (ah bK):=by o_head AA
def kd(T:Tx K mg Z):Ctr P w K mg base CX0 4 "checked_moves" ["moves", "many"] fb:=by
 o_head (AB T.aX fc)
 obtain ⟨a,ms,n,rfl,⟨rs,ha,hp⟩,hz,hn,k⟩:=h;refine' {_,?hterm,?_}
 case hterm=>
  have c:=fc;refine' aj ?q1 ?q2
  case q1=>
   refine' bU ?q3 ?q4 aS
   case q3=>o_head (w (s (u (l 0 (l xp a)))))
   case' q4=>refine' ax ?q10
   case q10=>exact bE
  case q2=>o_head (k (n (V bK ["moves", "many"] [none,some 1] ["move", "many"] (I (R (z a) 0)) (W 0 ["move", "many"]) (r (lK T) (l 0 (l 1 a))))))
 have hlen:rs.length=ms.length:=Paired.length hp;refine {_,rfl,_,_,_,_,_,rfl,rfl,cS,.lst ha,aW,_,rfl,aY ?_};refine {zero_le _,λe he=>{_,rfl,.inr (.inl {e,a,[],rs.map V.ref,rfl,rfl,aa,ai ha he,?_,λh hh=>?_})}}
 ·rw[length_nil,length_map,Nat.zero_add]
  exact Nat.le_of_lt (aw ())
 refine {h,rfl,{_,SqL.of aa},λp hp1=>?_};have ehp:h≠p:=af aa hp1;have sh:ag H (upd (upd H e (.lst [])) h (.lst (rs.map V.ref))):=(ag.upd he).trans (ag.upd hh);have hHp:H p=none:=sh.free hp1
 let Iv1:Nat->St->Hp->Prop:=λi σ H2=>(∃v,σ=[v,some (.int n)])/\ag H H2/\H2 h=some (.lst (rs.map V.ref))/\∃qs:List Addr,H2 p=some (.lst (qs.map V.ref))/\Paired (MvT H2) qs (ms.take i)
 refine bf (K:=K) (a:=h) (xs:=rs.map V.ref) Iv1
  ⟨⟨_,rfl⟩,sh.trans (ag.upd hp1),ai aa hp1,[],aa,.nil⟩ (λi σ H2 _ h=>SqL.of h.2.2.1) ?_ ?_
 ·rintro i x σ H2 hx ⟨⟨v,rfl⟩,s2,h1,qs,h2,h3⟩
  obtain ⟨r,er,rfl⟩:=aX hx;obtain ⟨m,em,hm⟩:=Paired.get hp er;have hq:qs.length<=ms.length:=by
   rw[Paired.length h3,length_take];omega
  refine {_,rfl,_,rfl,r,m.1,m.2,n,rfl,s2 _ _ hm,Int.natCast_nonneg _,?_,λq H3 s3 hq3 hq3'=>?_}
  ·have:=hn m (mem_of_getElem? em)
   omega
  refine {_,s3 _ _ h2,?_,{_,rfl},?_,?_,qs++[q],?_,?_}
  ·rw[length_map]
   exact aw ()
  ·intro b o eb
   rw[ae (af eb hHp)];exact s3 _ _ (s2 _ _ eb)
  ·rw[ae ehp]
   exact s3 _ _ h1
  ·rw[aa,map_append]
   rfl
  ·rw[aJ em]
   have np:∀r' m',MvT H3 r' m'->MvT (upd H3 p (.lst (qs.map V.ref++[.ref q]))) r' m':=λr' m' z=>by
    unfold MvT;rw[ae (aN z (s3 _ _ h2) (by intro w';cases w'))];exact z
   exact Paired.snoc' (Paired.imp (λ_ _ z=>np _ _ (MvT.same s3 z)) h3) (np _ _ hq3')
 ·rintro σ H2 ⟨_,s2,h1,qs,h2,h3⟩
  rw[length_map,hlen,take_length] at h3;exact k p H2 s2 hHp ⟨qs,h2,h3⟩
def tfl(b:Bool)(l:Addr)(g:Int):List (Str×V):=[("blind",.bl b),("came",.ref l),("gone_ahead",.int g)]
def uG(b:Bool)(l:Addr)(g:Int):(tfl b l g).lookup ("blind":Str)=some (.bl b):=rfl
def i7(b:Bool)(l:Addr)(g:Int):(tfl b l g).lookup ("came":Str)=some (.ref l):=rfl
def lL(b:Bool)(l:Addr)(g:Int):(tfl b l g).lookup ("gone_ahead":Str)=some (.int g):=rfl
def zl(b:Bool)(l:Addr)(g g':Int):aL "gone_ahead" (.int g') (tfl b l g)=tfl b l g':=rfl
def zm(b:Bool)(l:Addr):aL "gone_ahead" (.int 0) (aL "came" (.ref l) (aL "blind" (.bl b) []))=tfl b l 0:=rfl
def qS(b:Bool)(l:Addr)(g:Int):(tfl b l g).lookup ("is_empty":Str)=none/\(tfl b l g).lookup ("let_in":Str)=none/\(tfl b l g).lookup ("let_out":Str)=none/\(tfl b l g).lookup ("standing":Str)=none:=⟨rfl,rfl,rfl,rfl⟩
inductive im(C:Addr)(vs:List V)(H:Hp)(Q:VK)(u3:XK):Prop
 | mk (p dx:Addr) (b:Bool):vs=[.ref p,.bl b]->H p=some (.ins C dx [])->(∀(l:Addr) (H':Hp),H l=none->(∀c o,H c=some o->c≠p->H' c=some o)->H' p=some (.ins C dx (tfl b l 0))->H' l=some (.lst [])->Q .non H')->im C vs H Q u3
def io:ak ["self", "blind"] ["self", "blind"] (ah fD):=by o_head AA
def zn(T:Tx K mg Z):nE P w K mg base CX0 1 "Track" Z.aE ["self", "blind"] (im Z.aE):=by
 o_head (AD T.bX T.dQ io)
 obtain ⟨p,dx,b,rfl,hp,k⟩:=h
 o_head (AE io (j (F 0 1) (j (F 0 (z a)) (k (F 0 c)))))
 refine ⟨_,rfl,_,rfl,p,_,dx,_,rfl,hp,T.b0,T.b1,(by show 0<1000;decide),?_⟩;refine {zero_le _,λl hl=>?_};have npl:p≠l:=af aa hl;have hHl:H l=none:=by rw[ae npl.symm] at hl;exact hl
 refine ⟨_,rfl,p,_,dx,_,rfl,by rw[ae npl,aa],T.b0,T.b2,(by show 1<1000;decide),?_⟩;refine ⟨_,rfl,p,_,dx,_,rfl,aa,T.b0,T.b3,(by show 2<1000;decide),?_⟩;rw[zm];refine k l _ hHl (λc o e hc=>?_) aa ?_
 ·rw[ae hc,ae hc,ae (af e hHl),ae hc]
  exact e
 ·rw[ae npl.symm,ae npl.symm,aa]
def d7(C:Addr)(b:Bool)(H:Hp)(p l:Addr)(c:List Int)(g:Nat):Prop:=(∃dx,H p=some (.ins C dx (tfl b l (g:Int))))/\H l=some (.lst (c.map V.int))
inductive jT(C:Addr)(vs:List V)(H:Hp)(Q:VK)(u3:XK):Prop
 | mk (p l:Addr) (b:Bool) (c:List Int) (g:Nat):vs=[.ref p]->d7 C b H p l c g->Q (.bl (decide (g=c.length))) H->jT C vs H Q u3
def d8:ak ["self"] ["self"] (ah cx):=by o_head AA
def qT(T:Tx K mg Z):df P w K mg base CX0 1 Z.aE "is_empty" ["self"] (jT Z.aE):=by
 o_head (AC T.b0 T.dR d8)
 obtain ⟨p,l,b,c,g,rfl,⟨⟨dx,h1⟩,h2⟩,q⟩:=h
 o_head (AE d8 (k (n (xx (m 0) (t (l (m 0) a))))))
 refine {_,rfl,p,_,dx,_,_,rfl,h1,T.b0,T.b3,lL _ _ _,_,rfl,p,_,dx,_,_,rfl,h1,T.b0,T.b2,i7 _ _ _,_,_,rfl,.inl {_,SqL.of h2,rfl},.inl {rfl,?_}};rw[yo,length_map,show decide ((g:Int)=(c.length:Int))=decide (g=c.length) from decide_eq_decide.mpr ()];exact q
inductive nn(C:Addr)(vs:List V)(H:Hp)(Q:VK)(u3:XK):Prop
 | mk (p l:Addr) (b:Bool) (c:List Int) (g:Nat) (x:Int):vs=[.ref p,.int x]->d7 C b H p l c g->c.length<=1000->Q .non (upd H l (.lst ((c++[x]).map V.int)))->nn C vs H Q u3
def fR:ak ["self", "wagon"] ["self", "wagon"] (ah dF):=by o_head AA
def wK(T:Tx K mg Z):df P w K mg base CX0 1 Z.aE "let_in" ["self", "wagon"] (nn Z.aE):=by
 o_head (AC T.b0 T.dS fR)
 obtain ⟨p,l,b,c,g,x,rfl,⟨⟨dx,h1⟩,h2⟩,hz,q⟩:=h
 o_head (AE fR (k (p (D (m 0) (l 1 a)))))
 refine ⟨_,rfl,p,_,dx,_,_,rfl,h1,T.b0,T.b2,i7 _ _ _,.inl {rfl,_,SqL.of h2},_,rfl,l,_,_,rfl,rfl,h2,by rw[length_map];exact aw hz,?_⟩;rw[map_append] at q;exact q
inductive lM(C:Addr)(vs:List V)(H:Hp)(Q:VK)(u3:XK):Prop
 | mk (p l:Addr) (b:Bool) (c:List Int) (g:Nat) (x:Int):vs=[.ref p]->d7 C b H p l c g->((b=true/\c[c.length-1]?=some x/\Q (.int x) (upd H l (.lst (c.dropLast.map V.int))))\/(b=false/\c[g]?=some x/\∀dx,H p=some (.ins C dx (tfl b l (g:Int)))->Q (.int x) (upd H p (.ins C dx (tfl b l ((g+1:Nat):Int))))))->lM C vs H Q u3
def fe:ak ["self", "wagon"] ["self"] (ah cU):=by o_head AA
def uH(T:Tx K mg Z):df P w K mg base CX0 1 Z.aE "let_out" ["self"] (lM Z.aE):=by
 o_head (AC T.b0 T.dT fe)
 obtain ⟨p,l,b,c,g,x,rfl,⟨⟨dx,h1⟩,h2⟩,h3⟩:=h;refine' {_,?hterm,?_}
 case hterm=>
  have c:=fe;refine' aj ?q1 ?q2
  case q1=>o_head (q (s (m 0)) (k (n (xS (m 0)))) d)
  case' q2=>refine' aj ?q9 ?q10
  case q9=>o_head (o 1 (v (m 0) (m 0)))
  case' q10=>refine' aj ?q14 ?q15
  case q14=>exact iz (K:=K) (by rfl) (pv 0) eu p8
  case q15=>o_head (k (n 1))
 refine {_,rfl,p,_,dx,_,_,rfl,h1,T.b0,T.b1,uG _ _ _,_,rfl,?_};rcases h3 with ⟨rfl,hx,q⟩ | ⟨rfl,hx,q⟩
 ·refine dw {_,rfl,p,_,dx,_,_,rfl,h1,T.b0,T.b2,i7 _ _ _,.inl {rfl,_,SqL.of h2},.inl {l,_,.int x,rfl,rfl,h2,?_,?_}}
  ·rw[length_map,getElem?_map,hx]
   rfl
  ·rw[map_dropLast] at q
   exact q
 ·refine aY {_,rfl,p,_,dx,_,_,rfl,h1,T.b0,T.b2,i7 _ _ _,_,rfl,p,_,dx,_,_,rfl,h1,T.b0,T.b3,lL _ _ _,.inl {l,_,g,.int x,rfl,rfl,SqL.of h2,am ?_,?_}}
  ·rw[getElem?_map,hx]
   rfl
  refine ⟨_,rfl,p,_,dx,_,_,rfl,h1,T.b0,T.b3,lL _ _ _,g,1,rfl,rfl,dx,_,h1,(by show 3<1000;decide),_,rfl,?_⟩;rw[zl];exact q dx h1
inductive eJ(C:Addr)(vs:List V)(H:Hp)(Q:VK)(u3:XK):Prop
 | mk (a:Addr) (i:Int):vs=[.ref a,.int i]->H a=some (XO a C none)->i.natAbs.log2<1920->(∀d,H d=none->d≠a->Q .non (upd (upd H a (XO a C (some d))) d (.xd [("at",.int i)])))->eJ C vs H Q u3
def iq:ak ["self", "at"] ["self", "at"] (ah fC):=by o_head AA
def sL(T:Tx K mg Z):A7 P w K mg base 1 "Stuck" Z.aD ["self", "at"] (eJ Z.aD):=by
 refine yu T.bW T.dP λf fd F=>F.ok iq (λvs H Q E h=>?_) (λcdv A outer s H vs Q E hr h=>?_)
 ·obtain ⟨a,i,rfl,_⟩:=h
  rfl
 ·obtain ⟨a,i,rfl,ha,hi,k⟩:=h
  have hx:xIn K Z.aD=true:=by
   obtain ⟨_,_,_,m,_⟩:=T.dP.ex;exact m.x
  refine' {_,?hterm,?_}
  case hterm=>
   have c:=iq;refine' aj ?q1 ?q2
   case q1=>
    refine' kg ?q3
    case' q3=>refine' nJ (K:=K) (by rfl) rfl T.bU T.e7 ?q4
    case' q4=>refine' bB (pv 0) ?q5
    case' q5=>refine' bB ?q6 fV
    case q6=>exact yp (pv 1) (by decide) (by decide)
   case' q2=>refine' ax ?q7
   case q7=>exact ua (K:=K) (by rfl) (pv 0) (pv 1) rfl
  refine {_,rfl,_,rfl,_,rfl,hi,λy=>{a,_,_,rfl,hx,ha,?_}};refine {_,rfl,_,rfl,a,_,rfl,ha,T.e2,T.e4,λd hd hda=>?_};exact k d hd hda
structure Tk where
 p:Addr
 l:Addr
 c:List Int
 g:Nat
def Tk.st(k:Tk):List Int:=k.c.drop k.g
def yfl(wA:Addr)(b:Bool)(c:Int)(lA dA:Addr):List (Str×V):=[("wagons",.ref wA),("blind",.bl b),("come",.int c),("left",.ref lA),("tracks",.ref dA)]
def lN(wA:Addr)(b:Bool)(c:Int)(lA dA:Addr):(yfl wA b c lA dA).lookup ("wagons":Str)=some (.ref wA):=rfl
def uI(wA:Addr)(b:Bool)(c:Int)(lA dA:Addr):(yfl wA b c lA dA).lookup ("blind":Str)=some (.bl b):=rfl
def lO(wA:Addr)(b:Bool)(c:Int)(lA dA:Addr):(yfl wA b c lA dA).lookup ("come":Str)=some (.int c):=rfl
def pM(wA:Addr)(b:Bool)(c:Int)(lA dA:Addr):(yfl wA b c lA dA).lookup ("left":Str)=some (.ref lA):=rfl
def cE(wA:Addr)(b:Bool)(c:Int)(lA dA:Addr):(yfl wA b c lA dA).lookup ("tracks":Str)=some (.ref dA):=rfl
def zo(wA:Addr)(b:Bool)(c c':Int)(lA dA:Addr):aL "come" (.int c') (yfl wA b c lA dA)=yfl wA b c' lA dA:=rfl
def zp(wA:Addr)(b:Bool)(lA dA:Addr):aL "tracks" (.ref dA) (aL "left" (.ref lA) (aL "come" (.int 0) (aL "blind" (.bl b) (aL "wagons" (.ref wA) []))))=yfl wA b 0 lA dA:=rfl
def qU(wA:Addr)(b:Bool)(c:Int)(lA dA:Addr):(yfl wA b c lA dA).lookup ("carry_in":Str)=none/\(yfl wA b c lA dA).lookup ("carry_away":Str)=none/\(yfl wA b c lA dA).lookup ("carry_out":Str)=none/\(yfl wA b c lA dA).lookup ("standing_on":Str)=none:=⟨rfl,rfl,rfl,rfl⟩
structure Yk(Z:Adr)(b:Bool)(H0 H:Hp)(y wA lA dA:Addr)(T:List Int)(n:Nat)(st:Yd.St)(tk:Nat->Option Tk)(m:Nat):Prop where
 ins:∃dy,H y=some (.ins Z.aF dy (yfl wA b (st.came:Int) lA dA))
 wag:H0 wA=some (.lst (T.map V.int))
 wl:wA≠lA
 wy:wA≠y
 wd:wA≠dA
 y0:∃o,H0 y=some o
 l0:∃o,H0 lA=some o
 d0:∃o,H0 dA=some o
 left:H lA=some (.lst (st.left.map V.int))
 dct:∃kvs:List (Key×V),H dA=some (.dK kvs)/\kvs.length<=m/\∀j:Nat,dh kvs (Sum.inl (j:Int))=(tk j).map λk=>V.ref k.p
 at_:∀(j:Nat) (k:Tk),tk j=some k->d7 Z.aE b H k.p k.l k.c k.g/\k.g<=k.c.length/\(b=true->k.g=0)/\k.c.length<=st.came/\H0 k.p=none/\H0 k.l=none
 apart:∀(i j:Nat) (k k':Tk),tk i=some k->tk j=some k'->i≠j->k.p≠k'.p/\k.l≠k'.l
 oth:∀a o,H0 a=some o->a≠y->a≠lA->a≠dA->H a=some o
 len:st.tr.length=n
 tr:∀j,j<n->st.tr.getD j []=((tk j).map Tk.st).getD []
 cl:st.came<=T.length
 lm:st.left.length<=m
section
variable {b:Bool} {H0 H:Hp} {y wA lA dA:Addr} {T:List Int} {n m:Nat} {st:Yd.St} {tk:Nat->Option Tk}
def d7.same{H H':Hp}{C:Addr}(s:ag H H'){p l:Addr}{c:List Int}{g:Nat}(h:d7 C b H p l c g):d7 C b H' p l c g:=let ⟨⟨dx,h1⟩,h2⟩:=h;⟨⟨dx,s _ _ h1⟩,s _ _ h2⟩
def Yk.y_l(h:Yk Z b H0 H y wA lA dA T n st tk m):y≠lA:=let ⟨_,e⟩:=h.ins;aN e h.left λz=>by cases z
def Yk.y_d(h:Yk Z b H0 H y wA lA dA T n st tk m):y≠dA:=let ⟨_,e⟩:=h.ins;let ⟨_,f,_⟩:=h.dct;aN e f λz=>by cases z
def Yk.l_d(h:Yk Z b H0 H y wA lA dA T n st tk m):lA≠dA:=let ⟨_,f,_⟩:=h.dct;aN h.left f λz=>by cases z
def Yk.wagH(h:Yk Z b H0 H y wA lA dA T n st tk m):H wA=some (.lst (T.map V.int)):=h.oth _ _ h.wag h.wy h.wl h.wd
def Yk.k_y(h:Yk Z b H0 H y wA lA dA T n st tk m){j:Nat}{k:Tk}(e:tk j=some k):k.p≠y/\k.p≠lA/\k.p≠dA/\k.l≠y/\k.l≠lA/\k.l≠dA:=by
 obtain ⟨_,_,_,_,h1,h2⟩:=h.at_ j k e;obtain ⟨_,e1⟩:=h.y0;obtain ⟨_,e2⟩:=h.l0;obtain ⟨_,e3⟩:=h.d0;exact {(af e1 h1).symm,(af e2 h1).symm,(af e3 h1).symm,(af e1 h2).symm,(af e2 h2).symm,(af e3 h2).symm}
def Yk.p_l(h:Yk Z b H0 H y wA lA dA T n st tk m){i j:Nat}{k k':Tk}(hi:tk i=some k)(hj:tk j=some k'):k.p≠k'.l:=by
 obtain ⟨⟨⟨_,h1⟩,_⟩,_⟩:=h.at_ i k hi;obtain ⟨⟨_,h2⟩,_⟩:=h.at_ j k' hj;exact aN h1 h2 λz=>by cases z
def Yk.mono(h:Yk Z b H0 H y wA lA dA T n st tk m){m':Nat}(e:m<=m'):Yk Z b H0 H y wA lA dA T n st tk m':=
 ⟨h.ins,h.wag,h.wl,h.wy,h.wd,h.y0,h.l0,h.d0,h.left,let ⟨kvs,a,c,d⟩:=h.dct;⟨kvs,a,Nat.le_trans c e,d⟩,h.at_,h.apart,h.oth,h.len,h.tr,h.cl,Nat.le_trans h.lm e⟩
def Yk.same(h:Yk Z b H0 H y wA lA dA T n st tk m){H':Hp}(s:ag H H'):Yk Z b H0 H' y wA lA dA T n st tk m:=
 ⟨let ⟨dy,e⟩:=h.ins;⟨dy,s _ _ e⟩,h.wag,h.wl,h.wy,h.wd,h.y0,h.l0,h.d0,s _ _ h.left,let ⟨kvs,a,c,d⟩:=h.dct;⟨kvs,s _ _ a,c,d⟩,λj k e=>let ⟨a,r⟩:=h.at_ j k e;⟨a.same s,r⟩,h.apart,λa o e h1 h2 h3=>s _ _ (h.oth a o e h1 h2 h3),h.len,h.tr,h.cl,h.lm⟩
def qV(tk:Nat->Option Tk)(j:Nat)(k:Tk):Nat->Option Tk:=λi=>if i=j then some k else tk i
def cF{j:Nat}{k:Tk}:qV tk j k j=some k:=if_pos rfl
def gY{i j:Nat}{k:Tk}(h:i≠j):qV tk j k i=tk i:=if_neg h
def b7{i j:Nat}{k k':Tk}(h:qV tk j k i=some k'):(i=j/\k'=k)\/(i≠j/\tk i=some k'):=by
 unfold qV at h
 split at h
 ·rename_i e;exact .inl {e,(Option.some.inj h).symm}
 ·rename_i e;exact .inr ⟨e,h⟩
def Yk.opened(h:Yk Z b H0 H y wA lA dA T n st tk m){j:Nat}(hj:tk j=none){x dx l:Addr}{H1:Hp}(hx:H x=none)(hl:H l=none)(hxl:l≠x)(s1:ag H H1)(e1:H1 x=some (.ins Z.aE dx (tfl b l 0)))(e2:H1 l=some (.lst []))
  {kvs:List (Key×V)} (hd:H dA=some (.dK kvs)) (hk:kvs.length<=m) (hv:∀j:Nat,dh kvs (Sum.inl (j:Int))=(tk j).map λk=>V.ref k.p):
  Yk Z b H0 (upd H1 dA (.dK (hV kvs (Sum.inl (j:Int)) (.ref x)))) y wA lA dA T n st (qV tk j ⟨x,l,[],0⟩) (m+1):=by
 have h1:=h.same s1;have f0:∀a,H a=none->H0 a=none:=λa ha=>by
  cases q:H0 a with
  | none=>rfl
  | some o=>
   exfalso
   by_cases c1:a=y
   ·obtain ⟨_,e⟩:=h.ins;rw[c1,e] at ha;cases ha
   ·by_cases c2:a=lA
    ·rw[c2,h.left] at ha;cases ha
    ·by_cases c3:a=dA
     ·rw[c3,hd] at ha;cases ha
     ·rw[h.oth a o q c1 c2 c3] at ha;cases ha
 have dx':x≠dA:=(af hd hx).symm;have dl':l≠dA:=(af hd hl).symm;refine {?_,h.wag,h.wl,h.wy,h.wd,h.y0,h.l0,h.d0,?_,{_,aa,?_,λi=>?_},λi k e=>?_,λi i' k k' e e' ne=>?_,λa o e c1 c2 c3=>?_,h.len,λi hi=>?_,h.cl,Nat.le_succ_of_le h.lm}
 ·obtain ⟨dy,e⟩:=h1.ins
  exact ⟨dy,by rw[ae h.y_d];exact e⟩
 ·rw[ae h.l_d];exact h1.left
 ·rw[vZ _ (by rw[hv,hj];rfl),length_append]
  exact succ_le_succ hk
 ·rw[vY]
  by_cases c:i=j
  ·subst c
   rw[if_pos rfl,cF];rfl
  ·rw[if_neg (λz=>c (by have:=Sum.inl.inj z;omega)),gY c]
   exact hv i
 ·rcases b7 e with ⟨rfl,rfl⟩ | ⟨_,e⟩
  ·exact ⟨⟨⟨dx,by rw[ae dx'];exact e1⟩,by rw[ae dl'];exact e2⟩,Nat.le_refl _,λ_=>rfl,zero_le _,f0 x hx,f0 l hl⟩
  ·obtain ⟨⟨⟨d1,z1⟩,z2⟩,r⟩:=h1.at_ i k e
   have ky:=h.k_y e;exact ⟨⟨⟨d1,by rw[ae ky.2.2.1];exact z1⟩,by rw[ae ky.2.2.2.2.2];exact z2⟩,r⟩
 ·rcases b7 e with ⟨rfl,rfl⟩ | ⟨_,e3⟩<;>rcases b7 e' with ⟨rfl,rfl⟩ | ⟨_,e4⟩
  ·exact absurd rfl ne
  ·obtain ⟨⟨⟨d1,z1⟩,z2⟩,_⟩:=h.at_ i' k' e4
   exact {(af z1 hx).symm,(af z2 hl).symm}
  ·obtain ⟨⟨⟨d1,z1⟩,z2⟩,_⟩:=h.at_ i k e3
   exact {af z1 hx,af z2 hl}
  ·exact h.apart i i' k k' e3 e4 ne
 ·rw[ae c3]
  exact h1.oth a o e c1 c2 c3
 ·by_cases c:i=j
  ·subst c
   rw[cF,h.tr i hi,hj];rfl
  ·rw[gY c]
   exact h.tr i hi
def pN{tr:List (List Int)}{j i:Nat}{c:List Int}(hj:j<tr.length):(tr.set j c).getD i []=if i=j then c else tr.getD i []:=by
 rw[getD_eq_getElem?_getD,getD_eq_getElem?_getD,List.getElem?_set]
 by_cases e:j=i
 ·subst e
  rw[if_pos rfl,if_pos rfl,if_pos hj];rfl
 ·rw[if_neg e,if_neg (Ne.symm e)]
def Yk.came(h:Yk Z b H0 H y wA lA dA T n st tk m){j:Nat}{k:Tk}(e:tk j=some k)(hj:j<n){x:Int}(hx:T[st.came]?=some x){dy:Addr}:
  Yk Z b H0 (upd (upd H k.l (.lst ((k.c++[x]).map V.int))) y (.ins Z.aF dy (yfl wA b ((st.came+1:Nat):Int) lA dA))) y wA lA dA T n ⟨st.tr.set j (st.tr.getD j []++[x]),st.left,st.came+1⟩ (qV tk j { k with c:=k.c++[x] }) m:=by
 have ky:=h.k_y e;obtain ⟨⟨⟨dx,k1⟩,k2⟩,k3,k4,k5,k6,k7⟩:=h.at_ j k e;refine ⟨⟨dy,aa⟩,h.wag,h.wl,h.wy,h.wd,h.y0,h.l0,h.d0,?_,?_,λi k' e'=>?_,λi i' a a' z z' ne=>?_,λa o q c1 c2 c3=>?_,by rw[length_set];exact h.len,λi hi=>?_,(List.getElem?_eq_some_iff.mp hx).1,h.lm⟩
 ·rw[ae h.y_l.symm,ae ky.2.2.2.2.1.symm];exact h.left
 ·obtain ⟨kvs,d1,d2,d3⟩:=h.dct
  refine ⟨kvs,by rw[ae h.y_d.symm,ae ky.2.2.2.2.2.symm];exact d1,d2,λi=>?_⟩;rw[d3]
  by_cases c:i=j
  ·subst c;rw[cF,e];rfl
  ·rw[gY c]
 ·rcases b7 e' with ⟨rfl,rfl⟩ | ⟨ne,e'⟩
  ·refine ⟨⟨⟨dx,by rw[ae ky.1,ae (h.p_l e e)];exact k1⟩,by rw[ae ky.2.2.2.1,aa]⟩,?_,k4,?_,k6,k7⟩
   ·show k.g<=(k.c++[x]).length
    rw[length_append];omega
   ·show (k.c++[x]).length<=st.came+1
    rw[length_append];exact succ_le_succ k5
  ·obtain ⟨⟨⟨d1,z1⟩,z2⟩,z3,z4,z5,r⟩:=h.at_ i k' e'
   have ky':=h.k_y e';exact ⟨⟨⟨d1,by rw[ae ky'.1,ae (h.p_l e' e)];exact z1⟩,by rw[ae ky'.2.2.2.1,ae (h.apart i j k' k e' e ne).2];exact z2⟩,z3,z4,Nat.le_succ_of_le z5,r⟩
 ·rcases b7 z with ⟨rfl,rfl⟩ | ⟨_,z3⟩<;>rcases b7 z' with ⟨rfl,rfl⟩ | ⟨_,z4⟩
  ·exact absurd rfl ne
  ·exact h.apart i i' k a' e z4 ne
  ·exact h.apart i i' a k z3 e ne
  ·exact h.apart i i' a a' z3 z4 ne
 ·rw[ae c1,ae (af q k7)]
  exact h.oth a o q c1 c2 c3
 ·show (st.tr.set j _).getD i []=_
  rw[pN (by rw[h.len];exact hj)]
  by_cases c:i=j
  ·subst c
   rw[if_pos rfl,cF,h.tr i hi,e];show k.st++[x]=Tk.st { k with c:=k.c++[x] };unfold Tk.st;rw[List.drop_append_of_le_length k3]
  ·rw[if_neg c,gY c]
   exact h.tr i hi
def Yk.went(h:Yk Z b H0 H y wA lA dA T n st tk m){j:Nat}{k k':Tk}(e:tk j=some k)(hj:j<n){x:Int}{H1:Hp}(kp:k'.p=k.p)(kl:k'.l=k.l)(t1:d7 Z.aE b H1 k'.p k'.l k'.c k'.g)(g1:k'.g<=k'.c.length)(g2:b=true->k'.g=0)(g3:k'.c.length<=k.c.length)
  (s1:∀a o,H a=some o->a≠k.p->a≠k.l->H1 a=some o) {tr':List Int} (ht:k'.st=tr'):
  Yk Z b H0 (upd H1 lA (.lst ((st.left++[x]).map V.int))) y wA lA dA T n ⟨st.tr.set j tr',st.left++[x],st.came⟩ (qV tk j k') (m+1):=by
 have ky:=h.k_y e;obtain ⟨_,_,_,k5,k6,k7⟩:=h.at_ j k e;refine ⟨?_,h.wag,h.wl,h.wy,h.wd,h.y0,h.l0,h.d0,aa,?_,λi a e'=>?_,λi i' a a' z z' ne=>?_,λa o q c1 c2 c3=>?_,by rw[length_set];exact h.len,λi hi=>?_,h.cl,by rw[length_append];exact succ_le_succ h.lm⟩
 ·obtain ⟨dy,z⟩:=h.ins
  exact ⟨dy,by rw[ae h.y_l];exact s1 _ _ z ky.1.symm ky.2.2.2.1.symm⟩
 ·obtain ⟨kvs,d1,d2,d3⟩:=h.dct
  refine ⟨kvs,by rw[ae h.l_d.symm];exact s1 _ _ d1 ky.2.2.1.symm ky.2.2.2.2.2.symm,Nat.le_succ_of_le d2,λi=>?_⟩;rw[d3]
  by_cases c:i=j
  ·subst c;rw[cF,e];show some (V.ref k.p)=some (V.ref k'.p);rw[kp]
  ·rw[gY c]
 ·rcases b7 e' with ⟨rfl,rfl⟩ | ⟨ne,e'⟩
  ·obtain ⟨⟨dx,z1⟩,z2⟩:=t1
   exact ⟨⟨⟨dx,by rw[ae (by rw[kp];exact ky.2.1)];exact z1⟩,by rw[ae (by rw[kl];exact ky.2.2.2.2.1)];exact z2⟩,g1,g2,Nat.le_trans g3 k5,by rw[kp];exact k6,by rw[kl];exact k7⟩
  ·obtain ⟨⟨⟨d1,z1⟩,z2⟩,r⟩:=h.at_ i a e'
   have ky':=h.k_y e';have ap:=h.apart i j a k e' e ne;exact ⟨⟨⟨d1,by rw[ae ky'.2.1];exact s1 _ _ z1 ap.1 (h.p_l e' e)⟩,by rw[ae ky'.2.2.2.2.1];exact s1 _ _ z2 (h.p_l e e').symm ap.2⟩,r⟩
 ·rcases b7 z with ⟨rfl,rfl⟩ | ⟨_,z3⟩<;>rcases b7 z' with ⟨rfl,rfl⟩ | ⟨_,z4⟩
  ·exact absurd rfl ne
  ·rw[kp,kl];exact h.apart i i' k a' e z4 ne
  ·rw[kp,kl];exact h.apart i i' a k z3 e ne
  ·exact h.apart i i' a a' z3 z4 ne
 ·rw[ae c2]
  exact s1 _ _ (h.oth a o q c1 c2 c3) (af q k6) (af q k7)
 ·show (st.tr.set j _).getD i []=_
  rw[pN (by rw[h.len];exact hj)]
  by_cases c:i=j
  ·subst c
   rw[if_pos rfl,cF];exact ht.symm
  ·rw[if_neg c,gY c]
   exact h.tr i hi
end
inductive i8(Z:Adr)(vs:List V)(H:Hp)(Q:VK)(u3:XK):Prop
 | mk (p dx wA:Addr) (b:Bool) (T:List Int):vs=[.ref p,.ref wA,.bl b]->H p=some (.ins Z.aF dx [])->H wA=some (.lst (T.map V.int))->(∀(lA dA:Addr) (H':Hp),H lA=none->H dA=none->(∀c o,H c=some o->c≠p->H' c=some o)->H' lA=some (.lst [])->H' dA=some (.dK [])->H' p=some (.ins Z.aF dx (yfl wA b 0 lA dA))->Q .non H')->i8 Z vs H Q u3
def i9:ak ["self", "wagons", "blind"] ["self", "wagons", "blind"] (ah gn):=by o_head AA
def Bt(T:Tx K mg Z):nE P w K mg base CX0 1 "Yard" Z.aF ["self", "wagons", "blind"] (i8 Z):=by
 o_head (AD T.b4 T.dU i9)
 obtain ⟨p,dx,wA,b,tr,rfl,hp,hw,k⟩:=h;refine' {_,?hterm,?_}
 case hterm=>
  have c:=i9;refine' aj ?q1 ?q2
  case q1=>o_head (F 0 1)
  case' q2=>refine' aj ?q3 ?q4
  case q3=>o_head (F 0 2)
  case' q4=>refine' aj ?q5 ?q6
  case q5=>o_head (F 0 c)
  case' q6=>refine' aj ?q7 ?q8
  case q7=>o_head (F 0 (z a))
  case' q8=>refine' ax ?q10
  case' q10=>refine' rW (K:=K) (by rfl) (pv 0) ?q11 rfl
  case q11=>exact wa
 refine ⟨_,rfl,_,rfl,p,_,dx,_,rfl,hp,T.b5,T.cD,(by show 0<1000;decide),?_⟩;refine ⟨_,rfl,_,rfl,p,_,dx,_,rfl,aa,T.b5,T.b7,(by show 1<1000;decide),?_⟩;refine ⟨_,rfl,p,_,dx,_,rfl,aa,T.b5,T.b8,(by show 2<1000;decide),?_⟩;refine {zero_le _,λl hl=>?_};have npl:p≠l:=af aa hl;have hHl:H l=none:=by rw[ae npl.symm,ae npl.symm,ae npl.symm] at hl;exact hl
 refine ⟨_,rfl,p,_,dx,_,rfl,by rw[ae npl,aa],T.b5,T.b9,(by show 3<1000;decide),?_⟩;intro d hd;have npd:p≠d:=af aa hd;have nld:l≠d:=λz=>by rw[<- z,ae npl.symm,aa] at hd;cases hd
 have hHd:H d=none:=by rw[ae npd.symm,ae nld.symm,ae npd.symm,ae npd.symm,ae npd.symm] at hd;exact hd
 refine ⟨_,rfl,p,_,dx,_,rfl,by rw[ae npd,aa],T.b5,T.cA,(by show 4<1000;decide),?_⟩;rw[zp];refine k l d _ hHl hHd (λc o e hc=>?_) ?_ ?_ aa
 ·rw[ae hc,ae (af e hHd),ae hc,ae (af e hHl),ae hc,ae hc,ae hc]
  exact e
 ·rw[ae npl.symm,ae nld,ae npl.symm,aa]
 ·rw[ae npd.symm,aa]
def Yk.fresh{b:Bool}{H:Hp}{y wA lA dA dy:Addr}{T:List Int}{n:Nat}(h1:H y=some (.ins Z.aF dy (yfl wA b 0 lA dA)))(h2:H wA=some (.lst (T.map V.int)))(h3:H lA=some (.lst []))(h4:H dA=some (.dK []))(hwl:wA≠lA):
  Yk Z b H H y wA lA dA T n (Yd.init n) (λ_=>none) 0:=
 ⟨⟨dy,h1⟩,h2,hwl,aN h2 h1 (λz=>by cases z),aN h2 h4 (λz=>by cases z),⟨_,h1⟩,⟨_,h3⟩,⟨_,h4⟩,h3,⟨[],h4,Nat.le_refl _,λ_=>rfl⟩,λj k e=>(by cases e),λi j k k' e=>(by cases e),λa o e _ _ _=>e,length_replicate,λj hj=>(by
  show (List.replicate n ([]:List Int)).getD j []=[];rw[getD_eq_getElem?_getD,getElem?_replicate]
  split<;>rfl),zero_le _,Nat.le_refl _⟩
inductive lP(Z:Adr)(inn:Bool)(vs:List V)(H:Hp)(Q:VK)(E:XK):Prop
 | mk (b:Bool) (H0:Hp) (y wA lA dA:Addr) (T:List Int) (n:Nat) (st:Yd.St) (tk:Nat->Option Tk) (m i j:Nat):vs=[.ref y,.int i,.int j]->Yk Z b H0 H y wA lA dA T n st tk m->j<n->m<=1900->i<=1900->T.length<=200->(∀st',Yd.step T b st (inn,j)=some st'->∀H' tk',Yk Z b H0 H' y wA lA dA T n st' tk' (m+1)->Q .non H')->(Yd.step T b st (inn,j)=none->∀d H',ag H H'->H d=none->H' d=some (.xd [("at",.int i)])->E (.ref Z.aD) (some d) H')->lP Z inn vs H Q E
def iM {E:XK} {D:cR} {σ:St} {H:Hp} {i k:Nat} (hσ:σ[k]?=some (some (.int i))) (hi:i<=1900) (hE:∀d H',ag H H'->H d=none->H' d=some (.xd [("at",.int i)])->E (.ref Z.aD) (some d) H'):
  qv Z.aD (eJ Z.aD) E (rC (sX k) tH) D σ H:=by
 refine ⟨_,hσ,(by show 1<=1000;decide),λa ha=>⟨a,i,rfl,aa,?_,λd hd hda=>⟨rfl,some d,by rw[ae hda.symm,aa],?_⟩⟩⟩
 ·rw[Int.natAbs_natCast]
  exact Nat.lt_of_le_of_lt (Nat.log2_le_self i) ()
 ·rw[ae hda] at hd
  refine hE d _ (λc o e=>?_) hd (by rw[fW hda,aa]);rw[fW (af e ha),ae (af e hd),ae (af e ha),ae (af e ha)];exact e
def uJ{o:Option V}{A:Prop}{R:Hp->Prop}{H:Hp}(G:Hp->Prop)(all:∀H',G H'->R H')(h0:o=none->(∀H',G H'->R H')->A)(h1:o≠none->G H):if (!o.isSome)=true then A else R H:=by
 cases o with
 | none=>exact dw (h0 rfl all)
 | some v=>exact aY (all H (h1 (by intro z;cases z)))
def ja{H:Hp}{a:Addr}{kvs:List (Key×V)}{j:Nat}{o:Option V}(h:H a=some (.dK kvs))(e:dh kvs (Sum.inl (j:Int))=o):nR H a (.int (j:Int)) o:=by
 rw[<- e];exact nR.k (k:=Sum.inl (j:Int)) h
def ff:ak ["self", "at", "place"] ["self", "at", "place"] (ah cV):=by o_head AA
def qW(T:Tx K mg Z):df P w K mg base (CXe P w) 3 Z.aF "carry_in" ["self", "at", "place"] (lP Z true):=by
 refine kj T.b5 T.dW λf fd F=>F.okE ff (λvs H Q E h=>?_) (λcdv A outer s H vs Q E hr h=>?_)
 ·obtain ⟨b,H0,y,wA,lA,dA,tr,n,st,tk,m,i,j,rfl,_⟩:=h
  rfl
 ·obtain ⟨b,H0,y,wA,lA,dA,tr,n,st,tk,m,i,j,rfl,hY,hj,hm,hi,hT,kQ,kE⟩:=h
  refine' {_,?hterm,?_}
  case hterm=>
   have c:=ff;refine' aj ?q1 ?q2
   case q1=>
    refine' bU ?q3 ?q4 aS
    case q3=>o_head (xF (m 0) (t (l (m 0) a)))
    case' q4=>refine' ax ?q9
    case' q9=>refine' mQ (sL T) (hr.mono (by decide)) rfl r9 ?q10
    case q10=>o_head (l 1 a)
   case' q2=>refine' aj ?q11 ?q12
   case q11=>
    refine' bU ?q13 ?q14 aS
    case q13=>
     refine' uN ?q15
     case' q15=>refine' m7 (rM hr) (pv 2) ?q16
     case q16=>o_head (m 0)
    case' q14=>refine' ax ?q17
    case' q17=>refine' yM (rM hr) ?q18 (pv 2) ?q19 rfl
    case q18=>o_head (m 0)
    case q19=>o_head (O (zn T) (l (m 0) a))
   case' q12=>refine' aj ?q22 ?q23
   case q22=>o_head (p (L (ya (m 0) 2) (wK T) (l (v (m 0) (m 0)) a)))
   case' q23=>refine' ax ?q31
   case q31=>exact iz (K:=K) (by rfl) (pv 0) eu p8
  have hw:=hY.wagH;obtain ⟨dy,hy⟩:=hY.ins;refine {_,rfl,y,_,dy,_,_,rfl,hy,T.b5,T.b8,lO _ _ _ _ _,_,rfl,y,_,dy,_,_,rfl,hy,T.b5,T.cD,lN _ _ _ _ _,_,_,rfl,.inl {_,SqL.of hw,rfl},.inl {rfl,_,rfl,?_}};rw[yo]
  by_cases hc:(st.came:Int)=((tr.map V.int).length:Int)
  ·refine dX hc (iM (D:={ nx:=λ_ _=>False,rt:=Q }) (k:=1) rfl hi (kE ?_))
   unfold Yd.step;rw[if_pos rfl,getElem?_eq_none_iff.mpr (by rw[length_map] at hc;omega)]
  ·refine dB hc ?_
   rw[length_map] at hc;have hlt:st.came<tr.length:=by have:=hY.cl;omega
   obtain ⟨x,ex⟩:∃x,tr[st.came]?=some x:=⟨_,List.getElem?_eq_getElem hlt⟩;have hs:Yd.step tr b st (true,j)=some ⟨st.tr.set j (st.tr.getD j []++[x]),st.left,st.came+1⟩:=by
    unfold Yd.step;rw[if_pos rfl,ex]
   obtain ⟨kvs,hd,hk,hv⟩:=hY.dct;refine {_,rfl,_,rfl,y,_,dy,_,_,rfl,hy,T.b5,T.cA,cE _ _ _ _ _,dA,_,rfl,ja hd (hv j),_,rfl,?_};refine uJ (λH'=>∃tk1 k,Yk Z b H0 H' y wA lA dA tr n st tk1 (m+1)/\tk1 j=some k) ?_ ?_ ?_
   ·rintro H1 ⟨tk1,k,hY1,e1⟩
    obtain ⟨dy1,hy1⟩:=hY1.ins;obtain ⟨kvs1,hd1,_,hv1⟩:=hY1.dct;obtain ⟨⟨⟨dx,z1⟩,z2⟩,z3,z4,z5,z6,z7⟩:=hY1.at_ j k e1;refine ⟨_,rfl,y,_,dy1,_,_,rfl,hy1,T.b5,T.cA,cE _ _ _ _ _,_,rfl,dA,_,rfl,ja hd1 (by rw[hv1,e1];rfl),?_⟩;refine {k.p,dx,_,rfl,z1,(qS _ _ _).2.1,?_};refine ⟨_,rfl,y,_,dy1,_,_,rfl,hy1,T.b5,T.cD,lN _ _ _ _ _,_,rfl,y,_,dy1,_,_,rfl,hy1,T.b5,T.b8,lO _ _ _ _ _,.inl ⟨wA,_,(st.came:Int),.int x,rfl,rfl,SqL.of hY1.wagH,am (by rw[getElem?_map,ex];rfl),?_⟩⟩;refine {k.p,k.l,b,k.c,k.g,x,rfl,{⟨dx,z1⟩,z2},(),?_};have hy2:upd H1 k.l (.lst ((k.c++[x]).map V.int)) y=some (.ins Z.aF dy1 (yfl wA b (st.came:Int) lA dA)):=by rw[ae (hY1.k_y e1).2.2.2.1.symm];exact hy1
    refine ⟨_,rfl,y,_,dy1,_,_,rfl,hy2,T.b5,T.b8,lO _ _ _ _ _,(st.came:Int),1,rfl,rfl,dy1,_,hy2,(by show 5<1000;decide),?_⟩;rw[zo];exact kQ _ hs _ _ (hY1.came e1 hj ex)
   ·intro ho all
    have hnone:tk j=none:=by
     cases q:tk j with
     | none=>rfl
     | some k=>rw[q] at ho;cases ho
    refine {_,rfl,y,_,dy,_,_,rfl,hy,T.b5,T.b7,uI _ _ _ _ _,λx' dx hx hdx hne=>{x',dx,b,rfl,aa,λl H4 hl4 k1 k2 k3=>{rfl,?_}}};have s4:ag H H4:=λc o e=>k1 c o (by rw[ae (af e hx),ae (af e hdx)];exact e) (af e hx);have hlx:l≠x':=λz=>by rw[z,aa] at hl4;cases hl4
    have hl3:H l=none:=by
     rw[ae hlx] at hl4;have:l≠dx:=λz=>by rw[z,aa] at hl4;cases hl4
     rw[ae this] at hl4;exact hl4
    refine {_,rfl,y,_,dy,_,_,rfl,s4 _ _ hy,T.b5,T.cA,cE _ _ _ _ _,_,rfl,dA,_,rfl,v0.k (k:=Sum.inl (j:Int)) (s4 _ _ hd) (al ()),?_};exact all _ {_,_,hY.opened hnone hx hl3 hlx s4 k2 k3 hd hk hv,cF}
   ·intro ho
    cases q:tk j with
    | none=>rw[q] at ho;exact absurd rfl ho
    | some k=>exact ⟨tk,k,hY.mono (le_succ _),q⟩
def dQ:ak ["self", "at", "place"] ["self", "at", "place"] (ah bY):=by o_head AA
def oh(T:Tx K mg Z):df P w K mg base (CXe P w) 3 Z.aF "carry_away" ["self", "at", "place"] (lP Z false):=by
 refine kj T.b5 T.dX λf fd F=>F.okE dQ (λvs H Q E h=>?_) (λcdv A outer s H vs Q E hr h=>?_)
 ·obtain ⟨b,H0,y,wA,lA,dA,tr,n,st,tk,m,i,j,rfl,_⟩:=h
  rfl
 ·obtain ⟨b,H0,y,wA,lA,dA,tr,n,st,tk,m,i,j,rfl,hY,hj,hm,hi,hT,kQ,kE⟩:=h
  refine' {_,?hterm,?_}
  case hterm=>
   have c:=dQ;refine' aj ?q1 ?q2
   case q1=>
    refine' bU ?q3 ?q4 aS
    case q3=>
     refine' PW.pt ?q5
     case' q5=>refine' kr ?q6 ?q7
     case q6=>
      refine' uN ?q8
      case' q8=>refine' m7 (rM hr) (pv 2) ?q9
      case q9=>o_head (m 0)
     case q7=>o_head (G (s (M (ya (m 0) 2) (qT T))))
    case' q4=>refine' ax ?q14
    case' q14=>refine' mQ (sL T) (hr.mono (by decide)) rfl r9 ?q15
    case q15=>o_head (l 1 a)
   case q2=>o_head (k (p (D (m 0) (l (M (ya (m 0) 2) (uH T)) a))))
  obtain ⟨dy,hy⟩:=hY.ins;obtain ⟨kvs,hd,hk,hv⟩:=hY.dct;have htr:=hY.tr j hj;refine {_,rfl,_,rfl,y,_,dy,_,_,rfl,hy,T.b5,T.cA,cE _ _ _ _ _,dA,_,rfl,ja hd (hv j),_,rfl,?_};have none_:st.tr.getD j []=[]->Yd.step tr b st (false,j)=none:=λe=>by
   unfold Yd.step;rw[if_neg Bool.false_ne_true];show (if b=true then _ else _)=_;simp only[e]
   split<;>rfl
  cases e:tk j with
  | none=>
   refine dw (iM (D:={ nx:=λ_ _=>False,rt:=Q }) (k:=1) rfl hi (kE (none_ ?_)));rw[htr,e];rfl
  | some k=>
   rw[e] at htr;have htr:st.tr.getD j []=k.st:=htr;obtain ⟨⟨⟨dx,z1⟩,z2⟩,z3,z4,z5,z6,z7⟩:=hY.at_ j k e;have ky:=hY.k_y e;refine aY ?_;refine ⟨_,rfl,y,_,dy,_,_,rfl,hy,T.b5,T.cA,cE _ _ _ _ _,_,rfl,dA,_,rfl,ja hd (by rw[hv,e];rfl),?_⟩;refine {k.p,dx,_,rfl,z1,(qS _ _ _).1,k.p,k.l,b,k.c,k.g,rfl,{⟨dx,z1⟩,z2},_,rfl,?_}
   by_cases hc:k.g=k.c.length
   ·refine dX hc (iM (D:={ nx:=λ_ _=>False,rt:=Q }) (k:=1) rfl hi (kE (none_ ?_)))
    rw[htr];unfold Tk.st;rw[hc,List.drop_length]
   ·refine dB hc ?_
    have hgl:k.g<k.c.length:=()
    have hlm:=hY.lm;refine {_,rfl,y,_,dy,_,_,rfl,hy,T.b5,T.b9,pM _ _ _ _ _,.inl {rfl,_,SqL.of hY.left},?_};refine ⟨_,rfl,y,_,dy,_,_,rfl,hy,T.b5,T.cA,cE _ _ _ _ _,_,rfl,dA,_,rfl,ja hd (by rw[hv,e];rfl),?_⟩;refine {k.p,dx,_,rfl,z1,(qS _ _ _).2.2.1,?_};cases b with
    | true=>
     have hg0:=z4 rfl;obtain ⟨x,ex⟩:∃x,k.c[k.c.length-1]?=some x:=⟨_,List.getElem?_eq_getElem ()⟩;refine {k.p,k.l,true,k.c,k.g,x,rfl,{⟨dx,z1⟩,z2},.inl {rfl,ex,?_}};have hL6:upd H k.l (.lst (k.c.dropLast.map V.int)) lA=some (.lst (st.left.map V.int)):=by rw[ae ky.2.2.2.2.1.symm];exact hY.left
     refine ⟨lA,_,_,rfl,rfl,hL6,by rw[length_map];exact al (),?_⟩;have hs:Yd.step tr true st (false,j)=some ⟨st.tr.set j k.c.dropLast,st.left++[x],st.came⟩:=by
      unfold Yd.step;rw[if_neg Bool.false_ne_true,if_pos rfl];have e0:st.tr.getD j []=k.c:=by rw[htr];unfold Tk.st;rw[hg0,drop_zero]
      simp only[e0];rw[getLast?_eq_getElem?,ex]
     have:=hY.went (k':={ k with c:=k.c.dropLast }) (x:=x) (tr':=k.c.dropLast) (H1:=upd H k.l (.lst (k.c.dropLast.map V.int))) e hj rfl rfl
      ⟨⟨dx,by rw[ae (hY.p_l e e)];exact z1⟩,aa⟩ (by show k.g<=_;rw[hg0];exact zero_le _) z4 (by rw[length_dropLast];omega) (λa o q _ c2=>by rw[ae c2];exact q) (by unfold Tk.st;show k.c.dropLast.drop k.g=_;rw[hg0,drop_zero])
     rw[map_append] at this;exact kQ _ hs _ _ this
    | false=>
     obtain ⟨x,ex⟩:∃x,k.c[k.g]?=some x:=⟨_,List.getElem?_eq_getElem hgl⟩;refine {k.p,k.l,false,k.c,k.g,x,rfl,{⟨dx,z1⟩,z2},.inr {rfl,ex,λdx' _=>?_}};have hL6:upd H k.p (.ins Z.aE dx' (tfl false k.l ((k.g+1:Nat):Int))) lA=some (.lst (st.left.map V.int)):=by rw[ae ky.2.1.symm];exact hY.left
     refine ⟨lA,_,_,rfl,rfl,hL6,by rw[length_map];exact al (),?_⟩;have hs:Yd.step tr false st (false,j)=some ⟨st.tr.set j (k.c.drop (k.g+1)),st.left++[x],st.came⟩:=by
      unfold Yd.step;rw[if_neg Bool.false_ne_true,if_neg Bool.false_ne_true];have e0:st.tr.getD j []=x::k.c.drop (k.g+1):=by
       rw[htr];unfold Tk.st;rw[List.drop_eq_getElem_cons hgl];rw[List.getElem?_eq_getElem hgl] at ex;rw[Option.some.inj ex]
      simp only[e0]
     have:=hY.went (k':={ k with g:=k.g+1 }) (x:=x) (tr':=k.c.drop (k.g+1)) (H1:=upd H k.p (.ins Z.aE dx' (tfl false k.l ((k.g+1:Nat):Int)))) e hj rfl rfl
      ⟨⟨dx',aa⟩,by rw[ae (hY.p_l e e).symm];exact z2⟩ hgl (λz=>by cases z) (Nat.le_refl _) (λa o q c1 _=>by rw[ae c1];exact q) rfl
     rw[map_append] at this;exact kQ _ hs _ _ this
inductive jb(Z:Adr)(vs:List V)(H:Hp)(Q:VK)(E:XK):Prop
 | mk (b:Bool) (y wA lA dA sA dy:Addr) (T:List Int) (n:Nat) (ms:List Yd.Mv):vs=[.ref y,.ref sA]->H y=some (.ins Z.aF dy (yfl wA b 0 lA dA))->H wA=some (.lst (T.map V.int))->H lA=some (.lst [])->H dA=some (.dK [])->wA≠lA->sA≠lA->bg H sA ms->ms.length<=1000->(∀m∈ms,m.2<n)->T.length<=200->(∀st,Yd.steps T b (Yd.init n) ms=some st->∀H' tk m,m<=ms.length->Yk Z b H H' y wA lA dA T n st tk m->Q .non H')->(∀(i:Nat) st m,Yd.steps T b (Yd.init n) (ms.take i)=some st->ms[i]?=some m->Yd.step T b st m=none->∀d H',(∀a o,H a=some o->a≠y->a≠lA->a≠dA->H' a=some o)->(∀a,H' a=none->H a=none)->H d=none->H' d=some (.xd [("at",.int i)])->E (.ref Z.aD) (some d) H')->jb Z vs H Q E
def d9:ak ["self", "steps", "at", "step"] ["self", "steps"] (ah cy):=by o_head AA
def pO(T:Tx K mg Z):df P w K mg base (CXe P w) 4 Z.aF "carry_out" ["self", "steps"] (jb Z):=by
 refine kj T.b5 T.dV λf fd F=>F.okE d9 (λvs H Q E h=>?_) (λcdv A outer s H vs Q E hr h=>?_)
 ·obtain ⟨b,y,wA,lA,dA,sA,dy,tr,n,ms,rfl,_⟩:=h
  rfl
 ·obtain ⟨b,y,wA,lA,dA,sA,dy,tr,n,ms,rfl,h1,h2,h3,h4,hwl,hsl,⟨rs,hrs,hpr⟩,hz,hmn,hT,kQ,kE⟩:=h
  refine' {_,?hterm,?_}
  case hterm=>
   have c:=d9;refine' ax ?q1
   case' q1=>refine' kI PassesOwn.leaving rfl ?q2 ?q3 ?q4
   case q2=>o_head (xW (l 1 a))
   case q3=>o_head (N 2 (H (U 2) (H (U 3) h)))
   case' q4=>refine' ax ?q10
   case' q10=>refine' bU ?q11 ?q12 ?q13
   case q11=>o_head (xF (v 3 c) f)
   case q12=>
    refine' ax ?q15
    case' q15=>refine' kg ?q16
    case' q16=>refine' m8 (pv 0) (qW T) (hr.mono (by decide)) ?q17 (zJ λ_ _ _ z=>z)
    case q17=>o_head (l 2 (l (v 3 c) a))
   case' q13=>refine' ax ?q20
   case' q20=>refine' kg ?q21
   case' q21=>refine' m8 (pv 0) (oh T) (hr.mono (by decide)) ?q22 (zJ λ_ _ _ z=>z)
   case q22=>o_head (l 2 (l (v 3 c) a))
  have hsy:sA≠y:=aN hrs h1 λz=>by cases z
  have hsd:sA≠dA:=aN hrs h4 λz=>by cases z
  refine {_,rfl,sA,rfl,{_,SqL.of hrs},?_}
  let Iv1:Nat->St->Hp->Prop:=λi σ H2=>∃v1 v2 st tk m,σ=[some (.ref y),some (.ref sA),v1,v2]/\m<=i/\Yd.steps tr b (Yd.init n) (ms.take i)=some st/\Yk Z b H H2 y wA lA dA tr n st tk m
  refine oF (K:=K) (a:=sA) (xs:=rs.map V.ref) Iv1 ?_ (λi σ H2 _ h=>?_) ?_ ?_
  ·exact {none,none,Yd.init n,λ_=>none,0,rfl,Nat.le_refl _,rfl,Yk.fresh h1 h2 h3 h4 hwl}
  ·obtain ⟨_,_,st,tk,m,_,_,_,hY⟩:=h
   exact SqL.of (hY.oth _ _ hrs hsy hsl hsd)
  ·rintro i x t σ H2 hx ⟨v1,v2,st,tk,m,rfl,hm,hst,hY⟩ ht
   obtain ⟨r,er,rfl⟩:=aX hx;obtain ⟨mv,em,hmv⟩:=Paired.get hpr er;have hmv':=hmn mv (mem_of_getElem? em);have hi:i<ms.length:=(List.getElem?_eq_some_iff.mp em).1;have hr0:H2 r=some (.tup [.str (ft mv.1),.int (mv.2:Int)]):=by
    refine hY.oth _ _ hmv ?_ ?_ ?_
    ·exact aN hmv h1 λz=>by cases z
    ·exact aN hmv h3 λz=>by cases z
    ·exact aN hmv h4 λz=>by cases z
   have s5:ag H2 (upd H2 t (.tup [.int i,.ref r])):=ag.upd ht;have hY5:=hY.same s5;obtain ⟨dy5,hy5⟩:=hY5.ins;have hr5:=s5 _ _ hr0;refine {t,_,rfl,SqT.of aa,rfl,_,_,rfl,_,_,rfl,rfl,?_};refine {_,rfl,.inr {r,_,0,_,rfl,rfl,SqT.of hr5,rfl,.inl {rfl,_,rfl,?_}}};have stuck:Yd.step tr b st mv=none->∀d H',ag (upd H2 t (.tup [.int i,.ref r])) H'->upd H2 t (.tup [.int i,.ref r]) d=none->H' d=some (.xd [("at",.int i)])->E (.ref Z.aD) (some d) H':=by
    intro hs d H' sH hd hd';have back:∀a,upd H2 t (.tup [.int i,.ref r]) a=none->H a=none:=λa ha=>by
     cases q:H a with
     | none=>rfl
     | some o=>
      exfalso
      by_cases c1:a=y
      ·rw[c1,hy5] at ha;cases ha
      ·by_cases c2:a=lA
       ·rw[c2,hY5.left] at ha;cases ha
       ·by_cases c3:a=dA
        ·obtain ⟨_,e,_⟩:=hY5.dct;rw[c3,e] at ha;cases ha
        ·rw[hY5.oth a o q c1 c2 c3] at ha;cases ha
    exact kE i st mv hst em hs d H' (λa o q c1 c2 c3=>sH _ _ (hY5.oth a o q c1 c2 c3)) (λa ha=>back a (sH.free ha)) (back d hd) hd'
   obtain ⟨m1,m2⟩:=mv;cases m1 with
   | true=>
    refine dX rfl ?_;refine {_,rfl,y,dy5,_,rfl,hy5,(qU _ _ _ _ _).1,_,rfl,_,rfl,.inr {r,_,1,_,rfl,rfl,SqT.of hr5,rfl,?_}};refine {b,H,y,wA,lA,dA,tr,n,st,tk,m,i,m2,rfl,hY5,hmv',(),(),hT,λst' hs H' tk' hY'=>?_,stuck};exact {_,_,st',tk',m+1,rfl,succ_le_succ hm,ln hst em hs,hY'}
   | false=>
    refine dB (show ¬ V.str (Str.ofString "out")=V.str (Str.ofString "in") from by decide +kernel) ?_;refine {_,rfl,y,dy5,_,rfl,hy5,(qU _ _ _ _ _).2.1,_,rfl,_,rfl,.inr {r,_,1,_,rfl,rfl,SqT.of hr5,rfl,?_}};refine {b,H,y,wA,lA,dA,tr,n,st,tk,m,i,m2,rfl,hY5,hmv',(),(),hT,λst' hs H' tk' hY'=>?_,stuck};exact {_,_,st',tk',m+1,rfl,succ_le_succ hm,ln hst em hs,hY'}
  ·rintro σ H2 ⟨v1,v2,st,tk,m,rfl,hm,hst,hY⟩
   have hrl:(rs.map V.ref).length=ms.length:=by rw[length_map];exact Paired.length hpr
   rw[hrl,take_length] at hst;rw[hrl] at hm;exact kQ st hst H2 tk m hm hY
inductive jU  (vs:List V) (H:Hp) (Q:VK) (u3:XK):Prop
 | mk (wA mA sA:Addr) (b:Bool) (n:Nat) (T W:List Int) (ms:List Yd.Mv):vs=[.ref wA,.bl b,.int n,.ref mA,.ref sA]->H wA=some (.lst (T.map V.int))->T.length<=200->bg H mA ms->ms.length<=1000->(∀m∈ms,m.2<n)->H sA=some (.lst (W.map V.int))->(∀H',ag H H'->Q (.bl (mW T b n ms W)) H')->jU  vs H Q u3
def jV:ak ["coming", "blind", "many", "moves", "wanted", "yard"] ["coming", "blind", "many", "moves", "wanted"] (ah iG):=by o_head AA
def qX(T:Tx K mg Z):Ctr P w K mg base CX0 6 "leave_so" ["coming", "blind", "many", "moves", "wanted"] jU:=by
 o_head (AB T.a4 jV)
 obtain ⟨wA,mA,sA,b,n,tr,W,ms,rfl,hw,hTz,hM,hMz,hmn,hW,kQ⟩:=h;refine' {_,?hterm,?_}
 case hterm=>
  have c:=jV;refine' aj ?q1 ?q2
  case q1=>o_head (o 5 (O (Bt T) (l 0 (l 1 a))))
  case' q2=>refine' aj ?q6 ?q7
  case q6=>
   refine' yO (K:=K) (by rfl) rfl rfl ?q8 rfl T.bV T.e0 T.e1 rfl T.bW T.e2 T.e3 (λea=>?q9) (λea=>?q10)
   case q8=>
    refine' vA ?q11
    case' q11=>refine' yN (pv 5) (pO T) (hr.mono (by decide)) ?q12
    case' q12=>refine' wb ?q13
    case q13=>o_head (r (kd T) (l 3 (l 2 a)))
   case q9=>o_head (k (n e))
   case q10=>o_head (k (n e))
  case q7=>o_head (k (n (xx (m 5) 4)))
 refine {_,rfl,_,rfl,λy dy hy hdy hne=>{y,dy,wA,b,tr,rfl,aa,?_,λlA dA H3 hl hd k1 k2 k3 k4=>{rfl,?_}}}
 ·rw[ae (af hw hy),ae (af hw hdy)]
  exact hw
 have s3:ag H H3:=λc o e=>k1 c o (by rw[ae (af e hy),ae (af e hdy)];exact e) (af e hy);have nlA:lA≠y:=λz=>by rw[z,aa] at hl;cases hl
 have ndA:dA≠y:=λz=>by rw[z,aa] at hd;cases hd
 have hl2:H lA=none:=by
  rw[ae nlA] at hl;have:lA≠dy:=λz=>by rw[z,aa] at hl;cases hl
  rw[ae this] at hl;exact hl
 have hd2:H dA=none:=by
  rw[ae ndA] at hd;have:dA≠dy:=λz=>by rw[z,aa] at hd;cases hd
  rw[ae this] at hd;exact hd
 refine {_,rfl,y,dy,_,rfl,k4,(qU _ _ _ _ _).2.2.1,?_};refine {_,rfl,_,rfl,mA,ms,n,rfl,hM.same s3,hMz,hmn,λcA H4 s4 f4 h4=>?_};have back:∀{H':Hp},(∀a o,H4 a=some o->a≠y->a≠lA->a≠dA->H' a=some o)->ag H H':=λ{H'} z a o e=>
  z a o (s4 _ _ (s3 a o e)) (af e hy) (af e hl2) (af e hd2)
 have hcl:cA≠lA:=(af k2 f4).symm;refine {b,y,wA,lA,dA,cA,dy,tr,n,ms,rfl,s4 _ _ k4,s4 _ _ (s3 _ _ hw),s4 _ _ k2,s4 _ _ k3,af hw hl2,hcl,h4,hMz,hmn,hTz,λst hst H5 tk m hm hY=>?_,λi st m hst em hs d H5 k5 k6 hd5 hd6=>?_}
 ·obtain ⟨dy5,hy5⟩:=hY.ins
  have s5:ag H H5:=back hY.oth;refine {_,rfl,y,_,dy5,_,_,rfl,hy5,T.b5,T.b9,pM _ _ _ _ _,_,rfl,.inr {dI st.left,dI W,.ints (SqL.of hY.left),.ints (SqL.of (s5 _ _ hW)),bq _ _,bq _ _,?_}};have:=kQ H5 s5;unfold mW at this;rw[hst] at this;have this:Q (.bl (decide (st.left=W))) H5:=this
  by_cases hq:st.left=W
  ·rw[decide_eq_true hq] at this
   exact jn (by rw[hq]) this
  ·rw[decide_eq_false hq] at this
   exact Cj (λz=>hq (qx z)) this
 ·refine ⟨Z.aD,rfl,λd' e=>⟨_,by cases e;exact hd6⟩,.inr {T.e5,T.e6,λea hea=>?_}⟩
  have:=kQ (upd H5 ea (XH ea Z.aD (some d))) ((back k5).trans (ag.upd hea));have hn:Yd.steps tr b (Yd.init n) ms=none:=pd hst em hs;unfold mW at this;rw[hn] at this;exact this
inductive fg(C:Addr)(vs:List V)(H:Hp)(Q:VK)(u3:XK):Prop
 | mk (p mA tA:Addr) (gs:List Gm) (b:Bool) (n:Nat) (T:List Int):vs=[.ref p,.ref tA,.bl b,.int n]->uj C H p mA gs->GOk n gs->gs.length<=1000->H tA=some (.lst (T.map V.int))->T.Nodup->T.length<200->(∀H',ag H H'->Q (.bl (bu T b n gs)) H')->fg C vs H Q u3
def fh:ak ["self", "train", "blind", "many"] ["self", "train", "blind", "many"] (ah cW):=by o_head AA
def m_Shunted_shows(T:Tx K mg Z):df P w K mg base CX0 7 Z.aH "shows" ["self", "train", "blind", "many"] (fg Z.aH):=by
 o_head (AC T.cG T.d0 fh)
 obtain ⟨p,mA,tA,gs,b,n,tr,rfl,⟨dx,fs,h1,h2,h3,h4⟩,⟨ms,rfl,hmn⟩,hgl,hT,hnd,hz,kQ⟩:=h
 o_head (AE fh (k (n (r (qX T) (l 1 (l 2 (l 3 (l (m 0) (l (xk (l 1 a)) a)))))))))
 refine {_,rfl,_,rfl,_,rfl,_,rfl,p,_,dx,_,_,rfl,h1,T.cG,T.cI,h2,_,rfl,tA,tr,rfl,SqL.of hT,hz,λl ns hl hp hs=>?_};have s1:=ag.upd (o:=.lst (ns.map V.int)) hl;refine ⟨tA,mA,l,b,n,tr,ns,ms,rfl,s1 _ _ hT,(),(bX.m h4).same s1,by rw[length_map] at hgl;exact hgl,hmn,aa,λH' s2=>?_⟩;rw[jK hnd hmn hp hs];exact kQ H' (s1.trans s2)
inductive lQ(K:PySem.W.Frag)(vs:List V)(H:Hp)(Q:VK)(u3:XK):Prop
 | mk (tA mA:Addr) (b:Bool) (n:Nat) (T:List Int) (gs:List Gm):vs=[.ref tA,.bl b,.int n,.ref mA]->b=true->SqL K H tA (T.map V.int)->T.length<300->bX H mA gs->gs.length<=1000->n<=500->(aP T b n (Yd.init n) gs=none->∀H',ag H H'->Q .non H')->(∀st,aP T b n (Yd.init n) gs=some st->∀lA H',ag H H'->H lA=none->H' lA=some (.lst (st.left.map V.int))->Q (.ref lA) H')->lQ K vs H Q u3
def wL(x:Str):inV (.str x) [.str (Str.ofString "in"),.str (Str.ofString "out")]=(decide (x=Str.ofString "in")||decide (x=Str.ofString "out")):=by
 unfold inV;simp only[any_cons,List.any_nil,Bool.or_false];show ((Str.ofString "in"==x)||(Str.ofString "out"==x))=_;congr 1
 ·rw[Bool.eq_iff_iff,beq_iff_eq,decide_eq_true_iff];exact {λh=>h.symm,λh=>h.symm}
 ·rw[Bool.eq_iff_iff,beq_iff_eq,decide_eq_true_iff];exact {λh=>h.symm,λh=>h.symm}
def cZ:ak ["_law_train", "_law_blind", "_law_many", "_law_moves", "_law_tracks", "_law_left", "_law_came", "_law_move"] ["_law_train", "_law_blind", "_law_many", "_law_moves"] (ah b6):=by o_head AA
def lR(T:Tx K mg Z):Ctr P w K mg base CX0 1 "_law_brought" ["_law_train", "_law_blind", "_law_many", "_law_moves"] (lQ K):=by
 o_head (AB T.bE cZ)
 obtain ⟨tA,mA,b,n,tr,gs,rfl,hbt,hT,hTz,⟨rs,hrs,hprs⟩,hMz,hn2,kN,kS⟩:=h;refine' {_,?hterm,?_}
 case hterm=>
  have c:=cZ;refine' aj ?q1 ?q2
  case q1=>
   refine' yq (i:=4) (j:=5) (k:=6) rfl cZ.nd rfl rfl rfl (by decide) (by decide) (by decide) rfl rfl rfl ?q3 (by kernel_rfl) (hs:=by kernel_rfl)
   case q3=>o_head (l (V b6 ["_law_train", "_law_blind", "_law_many", "_law_moves", "_law_tracks", "_law_left", "_law_came", "_law_move"] [none] ["_law_track"] (J (l 2 a)) (W 0 ["_law_track"]) (z a)) (l (z a) (l c a)))
  case' q2=>refine' aj ?q12 ?q13
  case q12=>
   refine' kI HP rfl ?q14 ?q15 ?q16
   case q14=>o_head (I 3)
   case q15=>o_head (U 7)
   case' q16=>refine' aj ?q17 ?q18
   case q17=>
    refine' bU ?q19 ?q20 aS
    case q19=>
     refine' PW.pt ?q21
     case' q21=>refine' kr ?q22 ?q23
     case q22=>o_head (w (s (u (l 7 (l xr a)))))
     case' q23=>refine' kr ?q29 ?q30
     case q29=>o_head (xG (t (l 7 a)) c)
     case' q30=>refine' pV ?q33
     case' q33=>refine' bV (mK (K:=K) (by rfl)) ?q34 ?q35 (by with_unfolding_all rfl)
     case q34=>o_head (v 7 c)
     case q35=>o_head (z (l f (l f a)))
    case q20=>o_head (k (n g))
   case q18=>o_head (j (q (C (x (s (u (l (v 7 c) (l xq a)))) (x (w (s (u (l (v 7 c) (l xo a))))) (G (w (xO rm hZ c (v 7 c) 2)))))) (k (n g)) d) (k (q (C (xQ (xF (v 7 c) f) (xR (xH 6 (t (l 0 a)))))) (j (p (D (v 4 (v 7 c)) (l (v 0 6) a))) (k (o 6 (R 6 c)))) (k (q (C (xQ (xF (v 7 c) f) (xR (xG (v 4 (v 7 c)) (z a))))) (k (p (D 5 (l (xe (s 1) (xS (v 4 (v 7 c))) (xU (v 4 (v 7 c)) (l c a))) a)))) (k (n g)))))))
  case q13=>o_head (k (n 5))
 have hrl:rs.length=gs.length:=Paired.length hprs;refine {_,rfl,(n:Int),rfl,(),(),λkA hkA=>?_};rw[toNat_natCast]
 let Iv1:Nat->St->Hp->Prop:=λi σ H3=>(∃v,σ=[v])/\ag H H3/\∃ls:List Addr,Yds H H3 kA ls (List.replicate i [])
 refine dW (lo:=0) (n:=n) Iv1
  ⟨⟨_,rfl⟩,ag.upd hkA,[],aa,rfl,λj l e=>by simp at e,λi j l e=>by simp at e⟩ ?_ ?_
 ·rintro i σ H3 hi ⟨⟨v,rfl⟩,s3,ls,hy⟩
  refine {zero_le _,λl hl=>{_,(hy.same (ag.upd hl)).lst,?_,{_,rfl},?_,ls++[l],?_}}
  ·rw[length_map,hy.len,length_replicate]
   exact aw ()
  ·exact ag.updN (s3.trans (ag.upd hl)) hkA
  ·have:=hy.push s3 hl
   rw[replicate_succ'];exact this
 rintro σ H3 ⟨_,s3,ls,hy⟩;refine {zero_le _,λlA hlA=>{_,_,_,rfl,?_}};have s4:ag H3 (upd H3 lA (.lst [])):=ag.upd hlA;have hlH:H lA=none:=s3.free hlA;have ekl:kA≠lA:=af hy.lst hlA;have ell:∀(j:Nat) l,ls[j]?=some l->l≠lA:=λj l e=>by
  obtain ⟨c,_,a,_⟩:=hy.each j l e;exact af a hlA
 have hmS:∀{H4:Hp},ag H H4->H4 mA=some (.lst (rs.map V.ref)):=λs=>s _ _ hrs;refine {_,rfl,mA,rfl,{_,SqL.of (hmS (s3.trans s4))},?_}
 let Iv2:Nat->St->Hp->Prop:=λi σ H5=>∃(st:Yd.St) (v7:Option V) (c6:Int),c6=(st.came:Int)/\σ=[some (.ref tA),some (.bl b),some (.int n),some (.ref mA),some (.ref kA),some (.ref lA),some (.int c6),v7]/\ag H H5/\aP tr b n (Yd.init n) (gs.take i)=some st/\Yds H H5 kA ls st.tr/\H5 lA=some (.lst (st.left.map V.int))/\st.left.length<=i/\st.came<=tr.length/\∀(j:Nat) c,st.tr[j]?=some c->c.length<=st.came
 refine eK (K:=K) (a:=mA) (xs:=rs.map V.ref) Iv2
  ⟨Yd.init n,none,_,rfl,rfl,s3.trans s4,rfl,hy.same s4,aa,Nat.le_refl _,zero_le _,λj c e=>by
   have e':(List.replicate n ([]:List Int))[j]?=some c:=e;rw[getElem?_replicate] at e'
   split at e'
   ·cases e';exact Nat.le_refl _
   ·cases e'⟩ (λi σ H5 _ h=>?_) ?_ ?_
 ·obtain ⟨_,_,_,_,_,sm,_⟩:=h
  exact SqL.of (hmS sm)
 ·rintro i x σ H5 hx ⟨st,v7,_,rfl,rfl,sm,hst,hys,hL,hll,hcl,hsz⟩
  obtain ⟨r,er,rfl⟩:=aX hx;obtain ⟨g,eg,hg⟩:=Paired.get hprs er;obtain ⟨gx,gt⟩:=g;have hi:i<gs.length:=(List.getElem?_eq_some_iff.mp eg).1;have hg5:H5 r=some (.tup [.str gx,.int gt]):=sm _ _ hg;have htl:st.tr.length=n:=by rw[lw hst];show (List.replicate n ([]:List Int)).length=n;rw[length_replicate]
  have bad:∀{H6:Hp},ag H5 H6->aQ tr b n st (gx,gt)=none->Q .non H6:=λs6 hs=>kN (nM hst eg hs) _ (sm.trans s6);refine {_,rfl,_,_,_,_,_,rfl,rfl,cS,.tup hg5,aW,_,rfl,aY ?_};refine {_,rfl,_,2,rfl,.inr {_,SqT.of hg5,rfl},.inl {rfl,_,rfl,rN rfl ?_}};refine ⟨_,rfl,.inr ⟨r,_,0,_,rfl,rfl,SqT.of hg5,rfl,(by show 2<=sizeLine;decide),λwA hwA=>?_⟩⟩;have s6:=ag.upd (o:=.lst [.str (Str.ofString "in"),.str (Str.ofString "out")]) hwA;refine {wA,_,rfl,.inl (SqL.of aa),rfl,rfl,_,rfl,?_};show if (if true=true then !inV (.str gx) [.str (Str.ofString "in"),.str (Str.ofString "out")] else _)=true then _ else _
  rw[if_pos rfl,wL]
  by_cases hword:gx=Str.ofString "in"\/gx=Str.ofString "out"
  rotate_left
  ·have h1:¬ gx=Str.ofString "in":=λz=>hword (.inl z)
   have h2:¬ gx=Str.ofString "out":=λz=>hword (.inr z);rw[decide_eq_false h1,decide_eq_false h2];refine dw (bad s6 ?_);unfold aQ gmv;dsimp only;rw[if_neg h1,if_neg h2]
   split<;>rfl
  rw[show (decide (gx=Str.ofString "in")||decide (gx=Str.ofString "out"))=true from by rcases hword with z | z<;>simp[z]];refine aY ?_;have hg6:=s6 _ _ hg5;refine {_,rfl,.inr {r,_,1,_,rfl,rfl,SqT.of hg6,rfl,_,_,_,_,_,rfl,rfl,cS,.int gt,fo,_,rfl,aY ?_}};refine {_,rfl,.inr {r,_,1,_,rfl,rfl,SqT.of hg6,rfl,_,_,_,_,_,rfl,rfl,cS,.int gt,aW,_,rfl,aY ?_}};refine {_,rfl,.inr {r,_,1,_,rfl,rfl,SqT.of hg6,rfl,0,gt,rfl,rfl,_,rfl,?_}}
  by_cases hlo:0<=gt
  rotate_left
  ·rw[decide_eq_false hlo]
   refine aY {_,rfl,dw (bad s6 ?_)};unfold aQ gmv;dsimp only;rw[if_neg (λz=>hlo z.1)];rfl
  rw[decide_eq_true hlo];refine dw {_,rfl,gt,(n:Int),rfl,rfl,_,rfl,?_}
  by_cases hhi:gt<(n:Int)
  rotate_left
  ·rw[decide_eq_false hhi]
   refine dw (bad s6 ?_);unfold aQ gmv;dsimp only;rw[if_neg (λz=>hhi z.2)];rfl
  rw[decide_eq_true hhi];refine aY ?_;obtain ⟨t,rfl⟩:∃t:Nat,gt=(t:Int):=⟨gt.toNat,()⟩;have ht:t<n:=()
  have hgm:gmv n (gx,(t:Int))=if gx=Str.ofString "in" then some (true,t) else if gx=Str.ofString "out" then some (false,t) else none:=by
   unfold gmv;dsimp only;rw[if_pos ⟨hlo,hhi⟩,toNat_natCast]
  obtain ⟨l,el⟩:∃l,ls[t]?=some l:=⟨_,List.getElem?_eq_getElem (by rw[hys.len,htl];exact ht)⟩;obtain ⟨c,ec,hl,hl0,hlk⟩:=hys.each _ _ el;have eD:st.tr.getD t []=c:=by rw[getD_eq_getElem?_getD,ec];rfl
  have elV:(ls.map V.ref)[t]?=some (.ref l):=by rw[getElem?_map,el];rfl
  have y6:=hys.same s6;have hl6:=s6 _ _ hl;have hT6:=(sm.trans s6).seq hT;have llA:=ell _ _ el;have hcsz:=hsz _ _ ec;refine {_,rfl,.inr {r,_,0,_,rfl,rfl,SqT.of hg6,rfl,.inl {rfl,_,rfl,?_}}};rw[A0]
  by_cases hin:gx=Str.ofString "in"
  ·refine dX hin ?_
   refine {_,rfl,_,rfl,_,_,rfl,.inl {_,hT6,rfl},_,_,rfl,rfl,_,rfl,?_};refine vH (λhlt=>?_) (λhlt=>?_)
   ·rw[length_map] at hlt
    obtain ⟨x,ex⟩:∃x,tr[st.came]?=some x:=⟨_,List.getElem?_eq_getElem ()⟩;refine {_,rfl,_,rfl,.inr {r,_,1,_,rfl,rfl,SqT.of hg6,rfl,.inl {kA,_,_,.ref l,rfl,rfl,SqL.of y6.lst,am elV,.inl {rfl,_,SqL.of hl6},?_}}};refine ⟨_,rfl,_,rfl,.inl ⟨tA,_,_,.int x,rfl,rfl,hT6,am (by rw[getElem?_map,ex];rfl),l,_,_,rfl,rfl,hl6,?_,?_⟩⟩
    ·rw[length_map]
     exact aw ()
    refine {_,rfl,.inl {_,1,rfl,rfl,?_}};have hs:Yd.step tr b st (true,t)=some ⟨st.tr.set t (c++[x]),st.left,st.came+1⟩:=by
     unfold Yd.step;rw[if_pos rfl,ex];show some (Yd.St.mk (st.tr.set t (st.tr.getD t []++[x])) st.left (st.came+1))=_;rw[eD]
    have e1:(st.came:Int)+1=((st.came+1:Nat):Int):=()
    have y7:=y6.set el (c++[x]);rw[map_append] at y7;exact ⟨{st.tr.set t (c++[x]),st.left,st.came+1},_,_,e1,rfl,ag.updN (sm.trans s6) hl0,jG hst eg (by unfold aQ;rw[hgm,if_pos hin];exact hs),y7,by rw[ae llA.symm];exact s6 _ _ hL,Nat.le_succ_of_le hll,by show st.came+1<=_;omega,Yd.mR hs hsz⟩
   ·rw[length_map] at hlt
    refine {_,rfl,.inr {r,_,0,_,rfl,rfl,SqT.of hg6,rfl,.inl {rfl,_,rfl,?_}}};rw[A0];refine dB (by rw[hin];decide +kernel) ?_;refine aY (bad s6 ?_);unfold aQ;rw[hgm,if_pos hin];show Yd.step tr b st (true,t)=none;unfold Yd.step;rw[if_pos rfl,getElem?_eq_none_iff.mpr ()]
  ·have hout:gx=Str.ofString "out":=hword.resolve_left hin
   refine dB hin (aY ?_);refine {_,rfl,.inr {r,_,0,_,rfl,rfl,SqT.of hg6,rfl,.inl {rfl,_,rfl,?_}}};rw[A0];refine dX hout ?_;refine {_,rfl,_,rfl,.inr {r,_,1,_,rfl,rfl,SqT.of hg6,rfl,.inl {kA,_,_,.ref l,rfl,rfl,SqL.of y6.lst,am elV,?_}}};refine {zero_le _,λeL heL=>.inr {dI c,dI [],.ints (SqL.of (ai hl6 heL)),.ints (SqL.of aa),bq _ _,bq _ _,_,rfl,?_}};have sE:=s6.trans (ag.upd (o:=.lst []) heL);have yE:=hys.same sE;have hlE:=sE _ _ hl;have hgE:=sE _ _ hg5;have gst:aQ tr b n st (gx,(t:Int))=Yd.step tr b st (false,t):=by
    unfold aQ;rw[hgm,if_neg hin,if_pos hout];rfl
   refine oU (λhc=>?_) (λhc=>?_)
   ·have hne:c≠[]:=λz=>hc (by rw[z])
    have hpos:0<c.length:=List.length_pos_iff.mpr hne;refine {_,rfl,.inl {rfl,_,SqL.of (sE _ _ hL)},?_};refine {_,rfl,b,rfl,?_};cases b with
    | true=>
     obtain ⟨x,ex⟩:∃x,c[c.length-1]?=some x:=⟨_,List.getElem?_eq_getElem ()⟩;refine dw {_,rfl,_,rfl,.inr {r,_,1,_,rfl,rfl,SqT.of hgE,rfl,.inl {kA,_,_,.ref l,rfl,rfl,SqL.of yE.lst,am elV,.inl {rfl,_,SqL.of hlE},.inl {l,_,.int x,rfl,rfl,hlE,?_,?_}}}}
     ·rw[length_map,getElem?_map,ex];rfl
     have hL6:(upd (upd (upd H5 wA (.lst [.str (Str.ofString "in"),.str (Str.ofString "out")])) eL (.lst [])) l (.lst ((c.map V.int).dropLast))) lA=some (.lst (st.left.map V.int)):=by rw[ae llA.symm];exact sE _ _ hL
     refine ⟨lA,_,_,rfl,rfl,hL6,by rw[length_map];exact aw (),?_⟩;have hs:Yd.step tr true st (false,t)=some ⟨st.tr.set t c.dropLast,st.left++[x],st.came⟩:=by
      unfold Yd.step;rw[if_neg Bool.false_ne_true,if_pos rfl];simp only[eD];rw[getLast?_eq_getElem?,ex]
     have y7:=yE.set el c.dropLast;rw[map_dropLast] at y7;refine {{st.tr.set t c.dropLast,st.left++[x],st.came},_,_,rfl,rfl,ag.updN (ag.updN (sm.trans sE) hl0) hlH,jG hst eg (gst.trans hs),y7.other ekl ell,?_,?_,hcl,Yd.mR hs hsz}
     ·rw[aa,map_append];rfl
     ·rw[length_append];exact succ_le_succ hll
    | false=>exact absurd hbt (by decide)
   ·have hce:c=[]:=qx hc
    refine bad sE ?_;rw[gst];unfold Yd.step;rw[if_neg Bool.false_ne_true];simp only[eD,hce]
    split<;>rfl
 ·rintro σ H5 ⟨st,v7,_,rfl,rfl,sm,hst,hys,hL,hll,hcl,hsz⟩
  rw[length_map,hrl,take_length] at hst;exact {_,rfl,kS st hst lA H5 sm hlH hL}
inductive nq(K:PySem.W.Frag)(vs:List V)(H:Hp)(Q:VK)(u3:XK):Prop
 | mk (pA:Addr) (ps:List Int) (m:Int):vs=[.ref pA,.int m]->SqL K H pA (ps.map V.int)->Q (.bl (fK m (-1) ps)) H->nq K vs H Q u3
def gK:ak ["_law_places", "_law_many", "_law_last", "_law_place"] ["_law_places", "_law_many"] (ah eI):=by o_head AA
def mi(T:Tx K mg Z):Ctr P w K mg base CX0 1 "_law_rising" ["_law_places", "_law_many"] (nq K):=by
 o_head (AB T.bF gK)
 obtain ⟨pA,ps,m,rfl,hp,kQ⟩:=h
 o_head (AE gK (j (o 2 (y c)) (j (B (I 0) (U 3) (j (q (C (x (s (u (l 3 (l xq a)))) (x (w (s (u (l 3 (l xo a))))) (G (w (xO hZ hZ 2 3 1)))))) (k (n e)) d) (k (o 2 3)))) (k (n e)))))
 refine {1,rfl,?_};refine {_,rfl,pA,rfl,{_,hp},?_}
 let Iv3:Nat->St->Hp->Prop:=λi σ H5=>H5=H/\fK m (-1) (ps.take i)=true/\∃v3:Option V,σ=[some (.ref pA),some (.int m),some (.int ((ps.take i).getLast?.getD (-1))),v3]
 refine eK (K:=K) (a:=pA) (xs:=ps.map V.int) Iv3
  ⟨rfl,rfl,_,rfl⟩ (λi σ H5 _ h=>by rw[h.1];exact hp) ?_ ?_
 ·rintro i x σ H5 hx ⟨rfl,hri,v3,rfl⟩
  obtain ⟨p,ep,rfl⟩:=aX hx;have hsp:=lx hri ep;refine {_,rfl,_,_,_,_,_,rfl,rfl,cS,.int p,fo,_,rfl,aY ?_};refine {_,rfl,_,_,_,_,_,rfl,rfl,cS,.int p,aW,_,rfl,aY ?_};refine {_,rfl,_,rfl,_,_,rfl,rfl,_,rfl,?_}
  by_cases h1:(ps.take i).getLast?.getD (-1)<p
  rotate_left
  ·rw[decide_eq_false h1]
   refine aY {_,rfl,dw ?_};rw[decide_eq_false h1] at hsp;rw[hsp] at kQ;exact kQ
  rw[decide_eq_true h1];refine dw {_,rfl,_,_,rfl,rfl,_,rfl,?_}
  by_cases h2:p<m
  rotate_left
  ·rw[decide_eq_false h2]
   refine dw ?_;rw[decide_eq_false h2,Bool.and_false,Bool.false_and] at hsp;rw[hsp] at kQ;exact kQ
  rw[decide_eq_true h2];refine aY {_,rfl,rfl,?_,some (.int p),?_}
  ·rw[aJ ep]
   have:=lx (ps:=ps.take i++[p]) (i:=i) (p:=p) (m:=m) (last:=-1) (by rw[List.take_append_of_le_length (by rw[length_take];have:=(List.getElem?_eq_some_iff.mp ep).1;omega),List.take_take,min_self];exact hri)
    (by rw[getElem?_append_right (by rw[length_take];omega),length_take];have:=(List.getElem?_eq_some_iff.mp ep).1;rw[min_eq_left (),sub_self];rfl)
   rw[this,List.take_append_of_le_length (by rw[length_take];have:=(List.getElem?_eq_some_iff.mp ep).1;omega),List.take_take,min_self,decide_eq_true h1,decide_eq_true h2];rw[drop_of_length_le (by rw[length_append,length_take];simp only[length_cons,length_nil];omega)];rfl
  ·rw[aJ ep,getLast?_append]
   rfl
 ·rintro σ H5 ⟨rfl,hri,v3,rfl⟩
  rw[length_map,take_length] at hri;rw[hri] at kQ;exact kQ
end My
namespace My
open PySem L2
open PySem.W (Dat)
inductive wM(K:PySem.W.Frag)(vs:List V)(H:Hp)(Q:VK)(u3:XK):Prop
 | mk (a b s:Nat) (tA:Addr) (T:List Int):vs=[.ref tA,.int (a:Int),.int (b:Int),.int (s:Int)]->H tA=some (.lst (T.map V.int))->Yd.fZ T a b s->(∀H',ag H H'->Q (.bl true) H')->wM K vs H Q u3
def c7:ak ["_law_train", "_law_one", "_law_other", "_law_shown", "_law_first", "_law_second"] ["_law_train", "_law_one", "_law_other", "_law_shown"] (ah dJ):=by o_head AA
def lS(T:Tx K mg Z):Ctr P w K mg base CX0 2 "_law_at_odds" ["_law_train", "_law_one", "_law_other", "_law_shown"] (wM K):=by
 o_head (AB T.bG c7)
 obtain ⟨a,b,s,tA,tr,rfl,hT,⟨h1,h2,h3,h4,h5⟩,kQ⟩:=h;refine' {_,?hterm,?_}
 case hterm=>
  have c:=c7;refine' aj ?q1 ?q2
  case q1=>
   refine' pX (i:=4) (j:=5) rfl c7.nd rfl rfl (by decide) rfl rfl ?q3 (by kernel_rfl) (hs:=by kernel_rfl)
   case q3=>o_head (l (xg (l 1 (l 2 a))) (l (xf (l 1 (l 2 a))) a))
  case q2=>o_head (j (q (w (s (r (mi T) (l (z (l 4 (l 5 (l 3 a)))) (l (t (l 0 a)) a))))) (k (n e)) d) (k (n (xP hZ hZ (v 0 3) (v 0 4) (v 0 5)))))
 refine {_,rfl,_,rfl,_,_,rfl,?_};rw[sJ];refine {_,rfl,_,rfl,_,_,rfl,?_};rw[sK];refine {_,_,rfl,?_};refine ⟨_,rfl,_,rfl,_,rfl,(by show 3<=sizeLine;decide),λl hl=>?_⟩;have st:=ag.upd (o:=.lst [.int ((min a b:Nat):Int),.int ((max a b:Nat):Int),.int (s:Int)]) hl;refine {_,rfl,_,_,rfl,.inl {_,SqL.of (st _ _ hT),rfl},l,[((min a b:Nat):Int),((max a b:Nat):Int),(s:Int)],_,rfl,SqL.of aa,_,rfl,?_};have hris:fK ((tr.map V.int).length:Int) (-1) [((min a b:Nat):Int),((max a b:Nat):Int),(s:Int)]=true:=by
  rw[jH,length_map];refine {?_,λp hp=>?_}
  ·refine .cons (λx hx=>?_) (.cons (λx hx=>?_) (.cons (λx hx=>?_) (.cons (λx hx=>(by cases hx)) .nil)))
   ·simp only[mem_cons,mem_nil_iff,or_false] at hx
    rcases hx with rfl | rfl | rfl<;>omega
   ·simp only[mem_cons,mem_nil_iff,or_false] at hx
    rcases hx with rfl | rfl<;>omega
   ·simp only[mem_cons,mem_nil_iff,or_false] at hx
    rcases hx with rfl;omega
  ·simp only[mem_cons,mem_nil_iff,or_false] at hp
   rcases hp with rfl | rfl | rfl<;>omega
 rw[hris];refine aY ?_;have hT2:=st _ _ hT;refine {_,rfl,_,rfl,.inl {tA,_,(s:Int),_,rfl,rfl,SqL.of hT2,jz h3,?_}};refine {_,rfl,_,rfl,.inl {tA,_,((min a b:Nat):Int),_,rfl,rfl,SqL.of hT2,jz (),?_}};refine {_,_,rfl,rfl,_,rfl,?_};refine dX h4 ?_;refine {_,rfl,_,rfl,.inl {tA,_,((max a b:Nat):Int),_,rfl,rfl,SqL.of hT2,jz (),?_}};refine {_,_,rfl,rfl,(show Q (.bl (decide (tr.getD (min a b) 0<tr.getD (max a b) 0))) _ from ?_)};rw[decide_eq_true h5];exact kQ _ st
inductive sM(K:PySem.W.Frag)(vs:List V)(H:Hp)(Q:VK)(u3:XK):Prop
 | mk (tA pA sA:Addr) (ring shw:List Nat) (T:List Int):vs=[.ref tA,.ref pA,.ref sA]->H tA=some (.lst (T.map V.int))->H pA=some (.lst (au ring))->H sA=some (.lst (au shw))->ii T ring shw->ring.length<200->(∀H',ag H H'->Q (.bl true) H')->sM K vs H Q u3
def jW:ak ["_law_train", "_law_places", "_law_shown", "_law_many"] ["_law_train", "_law_places", "_law_shown"] (ah fF):=by o_head AA
def qY(T:Tx K mg Z):Ctr P w K mg base CX0 3 "_law_odd" ["_law_train", "_law_places", "_law_shown"] (sM K):=by
 o_head (AB T.bH jW)
 obtain ⟨tA,pA,sA,ring,shw,tr,rfl,hT,h2,h3,hok,hrl,kQ⟩:=h;refine' {_,?hterm,?_}
 case hterm=>
  have c:=jW;refine' aj ?q1 ?q2
  case q1=>o_head (X 3 (t (l 1 a)))
  case' q2=>refine' aj ?q5 ?q6
  case q5=>
   refine' bU ?q7 ?q8 aS
   case q7=>
    refine' PW.pt ?q9
    case' q9=>refine' kr ?q10 ?q11
    case q10=>o_head (xH 3 c)
    case' q11=>refine' kr ?q12 ?q13
    case q12=>o_head (xF (xu 3 c) c)
    case' q13=>refine' kr ?q15 ?q16
    case q15=>o_head (xG (t (l 2 a)) 3)
    case' q16=>refine' pV ?q19
    case' q19=>refine' bV (qr (K:=K) (by rfl) (by exact hr.units)) ?q20 (pv 3) (br _)
    case' q20=>refine' bG uy (by rfl) T.aI vC ?q21
    case' q21=>refine' bB ?q22 fV
    case' q22=>refine' dn (ux (by rfl)) (by rfl) T.aO Cv ?q23
    case q23=>o_head (l 1 a)
   case q8=>o_head (k (n e))
  case q6=>o_head (k (n (xh (l (V fF ["_law_train", "_law_places", "_law_shown", "_law_many"] [none,some 0,some 1,some 3,some 2] ["_law_k", "_law_train", "_law_places", "_law_many", "_law_shown"] (J (l 3 a)) (W 0 ["_law_k", "_law_train", "_law_places", "_law_many", "_law_shown"]) (r (lS T) (l 1 (l (v 2 0) (l (v 2 (xu (R 0 c) 3)) (l (v 4 0) a)))))) a))))
 have hlen:=hok.len;have hodd:=hok.odd;have hr3:=hok.three;refine {_,rfl,_,_,rfl,.inl {_,SqL.of h2,rfl},?_};rw[length_map];refine {_,rfl,_,_,rfl,rfl,_,rfl,?_};refine dB () ?_;refine ⟨_,rfl,_,2,rfl,rfl,(by show (0:Int)<2;decide),.inl ⟨rfl,_,rfl,?_⟩⟩;refine dB (λz=>by have:=V.int.inj z;omega) ?_;refine {_,rfl,_,_,rfl,.inl {_,SqL.of h3,rfl},_,rfl,.inl {rfl,_,rfl,?_}};rw[length_map,hlen];refine fX rfl ?_;have hnd:(ring.map λ(p:Nat)=>(p:Int)).Nodup:=by
  rw[List.nodup_iff_pairwise_ne,pairwise_map];exact (List.nodup_iff_pairwise_ne.mp hok.nd).imp λh z=>h ()
 have hon:=(wn (ring.map λ(p:Nat)=>(p:Int))).2.mpr hnd;rw[length_map] at hon;refine ⟨_,rfl,pA,ring.map (λ(p:Nat)=>(p:Int)),rfl,by rw[h2,eO],by rw[length_map];omega,λl hl=>?_⟩;have s1:=ag.upd (o:=.set (λk=>(iD (ring.map λ(p:Nat)=>(p:Int))).any (·==k)) (iD (ring.map λ(p:Nat)=>(p:Int))).length) hl;generalize hH1:upd H l (.set (λk=>(iD (ring.map λ(p:Nat)=>(p:Int))).any (·==k)) (iD (ring.map λ(p:Nat)=>(p:Int))).length)=H1 at s1 ⊢;have hl1:H1 l=some (.set (λk=>(iD (ring.map λ(p:Nat)=>(p:Int))).any (·==k)) (iD (ring.map λ(p:Nat)=>(p:Int))).length):=by rw[<- hH1];exact aa
 refine ⟨l,_,_,rfl,hl1,by rw[hon];omega,_,rfl,.inl ⟨rfl,_,rfl,?_⟩⟩;rw[hon];refine fX rfl ?_;refine {_,rfl,_,rfl,(),(),λp hp=>?_};rw[toNat_natCast];have h2':=s1 _ _ h2;have h3':=s1 _ _ h3;have hT':=s1 _ _ hT
 let Iv1:Nat->St->Hp->Prop:=λi σ H2=>(∃v,σ=[v,some (.ref tA),some (.ref pA),some (.int (ring.length:Int)),some (.ref sA)])/\ag H1 H2/\H2 p=some (.lst ((List.replicate i true).map V.bl))
 refine dW (lo:=0) (n:=ring.length) Iv1
  ⟨⟨_,rfl⟩,ag.upd hp,aa⟩ ?_ ?_
 ·rintro i σ H2 hi ⟨⟨v,rfl⟩,s2,h4⟩
  rw[show (0:Int)+(i:Int)=(i:Int) from Int.zero_add _];have hm:(i+1)%ring.length<ring.length:=Nat.mod_lt _ ();have og:∀{l:List Nat} {k:Nat},k<l.length->atI (au l) (k:Int)=some (.int ((l.getD k 0:Nat):Int)):=λ{l k} hk=>by
   refine am ?_;rw[getElem?_map,List.getElem?_eq_getElem hk,getD_eq_getElem?_getD,List.getElem?_eq_getElem hk];rfl
  refine {_,rfl,_,rfl,_,rfl,.inl {pA,_,(i:Int),_,rfl,rfl,SqL.of (s2 _ _ h2'),og hi,?_}};refine ⟨_,rfl,_,rfl,.inl ⟨_,1,rfl,rfl,_,rfl,_,_,rfl,rfl,(by show (0:Int)<(ring.length:Int);omega),.inl ⟨pA,_,(((i+1)%ring.length:Nat):Int),_,rfl,(by show V.int (((i:Int)+1)%(ring.length:Int))=_;congr 1),SqL.of (s2 _ _ h2'),og hm,?_⟩⟩⟩;refine {_,rfl,_,rfl,.inl {sA,_,(i:Int),_,rfl,rfl,SqL.of (s2 _ _ h3'),og (),?_}};refine {_,_,_,tA,tr,rfl,s2 _ _ hT',hok.at_ i hi,λH3 s3=>?_};refine {_,s3 _ _ h4,?_,{_,rfl},ag.updN (s2.trans s3) hp,?_}
  ·rw[length_map,length_replicate]
   exact al ()
  ·rw[aa,replicate_succ',map_append]
   rfl
 rintro σ H2 ⟨_,s2,h4⟩;refine {p,_,rfl,SqL.of h4,?_};rw[show (List.replicate ring.length true).all _root_.id=true from by simp];exact kQ H2 (s1.trans s2)
def mh.At.same{H H':Hp}{p:Addr}{a:mh}(h:a.At Z H p)(s:ag H H'):a.At Z H' p:=by
 cases a with
 | sh mA gs=>exact ⟨h.1.same s,h.2⟩
 | od pA sA ring shw=>obtain ⟨dx,a,b,c,d⟩:=h;exact {dx,s _ _ a,s _ _ b,s _ _ c,d}
def ii.short{T:List Int}{ring shw:List Nat}(h:ii T ring shw):ring.length<=T.length:=by
 have:=List.Nodup.length_le_of_subset h.nd (l₂:=List.range T.length) λx hx=>by
  obtain ⟨k,hk,e⟩:=getElem_of_mem hx;obtain ⟨a1,a2,a3,_⟩:=h.at_ k hk;rw[getD_eq_getElem?_getD,List.getElem?_eq_getElem hk] at a2;have:ring[k]<=max ring[k] (ring.getD ((k+1)%ring.length) 0):=Nat.le_max_left _ _;have a2':max ring[k] (ring.getD ((k+1)%ring.length) 0)<shw.getD k 0:=a2;rw[mem_range];omega
 rw[length_range] at this;exact this
inductive sN(Z:Adr)(vs:List V)(H:Hp)(Q:VK)(u3:XK):Prop
 | mk (tA p:Addr) (T:List Int) (a:mh):vs=[.ref tA,.ref p]->H tA=some (.lst (T.map V.int))->T.Nodup->T.length<200->a.At Z H p->a.ok T->(∀H',ag H H'->Q (.bl true) H')->sN Z vs H Q u3
def jX:ak ["_law_train", "_law_found"] ["_law_train", "_law_found"] (ah iJ):=by o_head AA
def qZ(T:Tx K mg Z):Ctr P w K mg base CX0 4 "_law_due" ["_law_train", "_law_found"] (sN Z):=by
 o_head (AB T.bN jX)
 obtain ⟨tA,p,tr,a,rfl,hT,hnd,hz,ha,hok,kQ⟩:=h
 o_head (AE jX (j (q (s (u (l 1 (l (E T.cF) a)))) (k (n (xx (r (lR T) (l 0 (l e (l c (l (m 1) a))))) (xk (l 0 a))))) d) (k (n (P (u (l (m 1) (l xp a))) (Q (r (qY T) (l 0 (l (m 1) (l (m 1) a))))))))))
 cases a with
 | sh mA gs=>
  obtain ⟨⟨dx,fs,h1,h2,h3,h4⟩,hgl,hgok⟩:=ha;refine {_,rfl,_,_,_,_,_,rfl,rfl,bp,T.cH.ty T.cG h1,aW,_,rfl,dw ?_};refine ⟨_,rfl,_,rfl,p,_,dx,_,_,rfl,h1,T.cG,T.cI,h2,tA,mA,true,2,tr,gs,rfl,rfl,SqL.of hT,(),h4,(),by decide,λhn H1 s1=>?_,λst hst lA H1 s1 hl1 hl1'=>?_⟩
  ·have hok':bu tr true 2 gs=true:=hok
   rw[jm hn] at hok';cases hok'
  ·refine {_,rfl,tA,tr,rfl,SqL.of (s1 _ _ hT),hz,λl ns hl hp hs=>.inr {dI st.left,dI ns,.ints (SqL.of (ai hl1' hl)),.ints (SqL.of aa),bq _ _,bq _ _,?_}}
   have e:=(jJ hnd hst hp hs).mpr hok;exact jn (by rw[e]) (kQ _ (s1.trans (ag.upd (o:=.lst (ns.map V.int)) hl)))
 | od pA sA ring shw=>
  have hok':ii tr ring shw:=hok;obtain ⟨dx,h1,h2,h3,h4⟩:=ha;refine {_,rfl,_,_,_,_,_,rfl,rfl,bp,T.cO.ty T.cN h1,T.eU,_,rfl,aY ?_};refine {_,rfl,p,_,dx,_,_,rfl,h1,T.cN,T.cR,bA _ _,_,_,_,_,_,rfl,rfl,cS,.lst h2,aW,_,rfl,dw ?_};refine {_,rfl,_,rfl,p,_,dx,_,_,rfl,h1,T.cN,T.cR,bA _ _,_,rfl,p,_,dx,_,_,rfl,h1,T.cN,T.cS,e9 _ _,?_};have:=hok'.short;exact {tA,pA,sA,ring,shw,tr,rfl,hT,h2,h3,hok',(),kQ}
def KpT(H:Hp)(r:Addr)(x:Nat×Nat):Prop:=H r=some (.tup [.int (x.1:Int),.int (x.2:Int)])
def zR(H:Hp)(a:Addr)(l:List (Nat×Nat)):Prop:=∃rs:List Addr,H a=some (.lst (rs.map V.ref))/\Paired (KpT H) rs l
def jc(m:Nat):∀n,(Yd.iS m n).length=4+2*n
 | 0=>by rw[Yd.gW];rfl
 | n+1=>by rw[Yd.gX,length_append,jc m n];simp only[length_cons,length_nil];omega
def gL(m:Nat):List Int:=(List.range (m-2)).map (λ(i:Nat)=>((i+1:Nat):Int))++[(m:Int),((m-1:Nat):Int)]
def pP{m:Nat}(hm:3<=m):(gL m).length=m:=by
 unfold gL;rw[length_append,length_map,length_range];simp only[length_cons,length_nil];omega
def lU{m k:Nat}(hm:3<=m)(h1:1<=k)(h2:k<=m):(gL m)[Yd.fB m k]?=some (k:Int):=by
 unfold gL Yd.fB;have hl:((List.range (m-2)).map (λ(i:Nat)=>((i+1:Nat):Int))).length=m-2:=by rw[length_map,length_range]
 split
 ·rename_i e
  rw[getElem?_append_right (by rw[hl];exact Nat.le_refl _),hl,sub_self,e];rfl
 ·split
  ·rename_i e
   rw[getElem?_append_right (by rw[hl];omega),hl,show m-1-(m-2)=1 by omega,e];rfl
  ·rw[getElem?_append_left (by rw[hl];omega),getElem?_map,getElem?_range ()]
   show some (((k-1+1:Nat)):Int)=_;rw[show k-1+1=k by omega]
def wN{m:Nat}(hm:3<=m){x:Int}(h:x∈gL m):∃k:Nat,x=(k:Int)/\1<=k/\k<=m:=by
 unfold gL at h;rcases mem_append.mp h with h | h
 ·obtain ⟨i,hi,rfl⟩:=mem_map.mp h
  have:=mem_range.mp hi;exact {i+1,rfl,(),()}
 ·simp only[mem_cons,mem_nil_iff,or_false] at h
  rcases h with rfl | rfl
  ·exact {m,rfl,(),Nat.le_refl _}
  ·exact {m-1,rfl,(),()}
def wO{m k:Nat}(hm:3<=m)(h1:1<=k)(h2:k<=m):(gL m).idxOf (k:Int)=Yd.fB m k:=by
 have hmem:(k:Int)∈gL m:=mem_of_getElem? (lU hm h1 h2);have hlt:=idxOf_lt_length_iff.mpr hmem;rw[pP hm] at hlt;have e:(gL m)[(gL m).idxOf (k:Int)]?=some (k:Int):=by rw[List.getElem?_eq_getElem (idxOf_lt_length_iff.mpr hmem),List.getElem_idxOf]
 have inv:∀j x:Nat,j<m->(gL m)[j]?=some (x:Int)->1<=x->x<=m->j=Yd.fB m x:=λj x hj ej x1 x2=>by
  obtain ⟨y,hy1,hy2,hy3⟩:∃y,1<=y/\y<=m/\Yd.fB m y=j:=by
   by_cases a:j=m-2
   ·exact ⟨m,(),Nat.le_refl _,by unfold Yd.fB;rw[if_pos rfl];omega⟩
   ·by_cases b:j=m-1
    ·exact ⟨m-1,(),(),by unfold Yd.fB;rw[if_neg (),if_pos rfl];omega⟩
    ·exact ⟨j+1,(),(),by unfold Yd.fB;rw[if_neg (),if_neg ()];omega⟩
  have:=lU hm hy1 hy2;rw[hy3,ej] at this;have:x=y:=by have:=Option.some.inj this;omega
  rw[this,hy3]
 exact inv _ k hlt e h1 h2
def sO{m:Nat}(hm:3<=m):∀{n:Nat},n<=m-3->∀x∈Yd.iS m n,1<=x.2/\x.2<=m
 | 0,_,x,hx=>by
  rw[Yd.gW] at hx;simp only[mem_cons,mem_nil_iff,or_false] at hx;rcases hx with rfl | rfl | rfl | rfl<;>dsimp only<;>omega
 | n+1,hn,x,hx=>by
  rw[Yd.gX] at hx;rcases mem_append.mp hx with hx | hx
  ·exact sO hm () x hx
  ·simp only[mem_cons,mem_nil_iff,or_false] at hx
   rcases hx with rfl | rfl<;>dsimp only<;>omega
inductive nr  (vs:List V) (H:Hp) (Q:VK) (u3:XK):Prop
 | mk (m:Nat):vs=[.int (m:Int)]->3<=m->m<=66->(∀(l:Addr) (H':Hp),ag H H'->H l=none->H' l=some (.lst ((Yd.cb m).map V.int))->Q (.ref l) H')->nr  vs H Q u3
def dR:ak ["_law_many", "_law_row", "_law_k", "_law_order"] ["_law_many"] (ah cL):=by o_head AA
def mj(T:Tx K mg Z):Ctr P w K mg base CX0 1 "_law_ringed" ["_law_many"] nr:=by
 o_head (AB T.bT dR)
 obtain ⟨m,rfl,hm,hm2,kQ⟩:=h;refine' {_,?hterm,?_}
 case hterm=>
  have c:=dR;refine' aj ?q1 ?q2
  case q1=>o_head (o 1 (z (l (A (l c (l c a))) (l (A (l c (l 0 a))) (l (A (l c (l c a))) (l (A (l c (l c a))) a))))))
  case' q2=>refine' aj ?q20 ?q21
  case q20=>o_head (B (xV (l c (l 0 a))) (U 2) (k (o 1 (R 1 (z (l (A (l c (l 2 a))) (l (A (l c (l (xt 2 c) a))) a)))))))
  case' q21=>refine' aj ?q39 ?q40
  case q39=>
   refine' kB (i:=3) dR.nd rfl (Or.inr rfl) ?q41
   case' q41=>refine' fJ (gN (K:=K) (by rfl)) ?q42 ?q43
   case q42=>
    refine' dn (o4 (K:=K) (by rfl) (by rfl)) (by rfl) T.aJ qw ?q44
    case q44=>o_head (l (xn (l c (l (xt 0 c) a))) a)
   case q43=>o_head (z (l 0 (l (xt 0 c) a)))
  case' q40=>refine' ax ?q52
  case' q52=>refine' ku ?q53
  case' q53=>refine' rP rfl (kX (sc:=ah cL) (N:=["_law_many", "_law_row", "_law_k", "_law_order"]) (cap:=[none,none,some 3]) (N':=["_law_kind", "_law_k", "_law_order"]) rfl rfl ⟨ rfl,by decide +kernel,by decide +kernel,by decide +kernel,rfl,by decide +kernel ⟩) ?q54 (λ_ _ _ _=>?q55) (λ_ _ _ _=>ki) (λ_ _ _ _=>?q56)
  case q54=>o_head (I (R 1 (z (l (A (l c (l 0 a))) (l (A (l c (l (xt 0 c) a))) a)))))
  case q55=>o_head (N 2 (H (W 0 ["_law_kind", "_law_k", "_law_order"]) (H (W 1 ["_law_kind", "_law_k", "_law_order"]) h)))
  case q56=>
   refine' fJ (gN (K:=K) (by rfl)) ?q72 (pv 0)
   case' q72=>refine' fJ rR eu ?q73
   case' q73=>refine' lg (K:=K) (by rfl) PySem.F.plainAttrs_list PySem.F.slot_list_index PySem.F.type_list_index (o5 (K:=K) (by rfl)) (pv 2) ?q74
   case q74=>o_head (l 1 a)
 refine ⟨(by show 2<=sizeLine;decide),λt1 ht1=>⟨_,rfl,(by show 2<=sizeLine;decide),λt2 ht2=>⟨(by show 2<=sizeLine;decide),λt3 ht3=>⟨(by show 2<=sizeLine;decide),λt4 ht4=>⟨(by show 4<=sizeLine;decide),λrA hrA=>?_⟩⟩⟩⟩⟩;have n12:t1≠t2:=af aa ht2;have n13:t1≠t3:=af (ai aa ht2) ht3;generalize hHa:upd (upd (upd (upd (upd H t1 (.tup [.int 1,.int 1])) t2 (.tup [.int 1,.int (m:Int)])) t3 (.tup [.int 1,.int 2])) t4 (.tup [.int 0,.int 1])) rA (.lst [.ref t1,.ref t2,.ref t3,.ref t4])=Ha;have sA:ag H Ha:=by rw[<- hHa];exact ((((ag.upd ht1).trans (ag.upd ht2)).trans (ag.upd ht3)).trans (ag.upd ht4)).trans (ag.upd hrA)
 have rowA:zR Ha rA (Yd.iS m 0):=by
  rw[Yd.gW,<- hHa];refine {[t1,t2,t3,t4],aa,.cons ?_ (.cons ?_ (.cons ?_ (.cons ?_ .nil)))}
  ·exact ai (ai (ai (ai aa ht2) ht3) ht4) hrA
  ·exact ai (ai (ai aa ht3) ht4) hrA
  ·exact ai (ai aa ht4) hrA
  ·exact ai aa hrA
 have hrH:H rA=none:=((((ag.upd ht1).trans (ag.upd ht2)).trans (ag.upd ht3)).trans (ag.upd ht4)).free hrA;refine {_,rfl,_,_,rfl,⟨by decide,by decide,(),()⟩,?_};rw[show (((m:Int)-3).toNat)=m-3 from ()]
 let Iv1:Nat->St->Hp->Prop:=λi σ H1=>∃(r:Addr) (v2 v3:Option V),σ=[some (.int (m:Int)),some (.ref r),v2,v3]/\ag H H1/\zR H1 r (Yd.iS m i)/\i<=m-3
 refine ce (lo:=3) (n:=m-3) Iv1
  ⟨rA,none,none,rfl,sA,rowA,zero_le _⟩ ?_ ?_
 ·rintro i σ H1 hi ⟨r,v2,v3,rfl,s1,⟨rs,hr1,hp1⟩,_⟩
  have hlr:rs.length=4+2*i:=by
   rw[Paired.length hp1,jc]
  refine ⟨_,rfl,_,rfl,(by show 2<=sizeLine;decide),λu1 hu1=>?_⟩;refine ⟨_,rfl,_,1,rfl,rfl,(by show 2<=sizeLine;decide),λu2 hu2=>?_⟩;refine ⟨(by show 2<=sizeLine;decide),λu3 hu3=>?_⟩;have s2:=((ag.upd (o:=.tup [.int 1,.int (3+(i:Int))]) hu1).trans (ag.upd (o:=.tup [.int 0,.int (3+(i:Int)-1)]) hu2)).trans (ag.upd (o:=.lst [.ref u1,.ref u2]) hu3);refine .inr (.inl {r,u3,_,_,rfl,rfl,s2 _ _ hr1,aa,?_,λr2 hr2=>?_})
  ·rw[length_map,hlr]
   exact Nat.le_of_lt (al (by show 4+2*i+2<=_;omega))
  have s3:=s2.trans (ag.upd (o:=.lst (rs.map V.ref++[.ref u1,.ref u2])) hr2);refine {r2,_,_,rfl,s1.trans s3,{rs++[u1,u2],?_,?_},hi}
  ·rw[aa,map_append]
   rfl
  ·rw[Yd.gX]
   refine Paired.append (Paired.imp (λ_ _ z=>s3 _ _ z) hp1) (.cons ?_ (.cons ?_ .nil))
   ·show _=some (HO.tup [.int ((1:Nat):Int),.int ((i+3:Nat):Int)])
    rw[show ((i+3:Nat):Int)=3+(i:Int) by omega];exact ai (ai (ai aa hu2) hu3) hr2
   ·show _=some (HO.tup [.int ((0:Nat):Int),.int ((i+2:Nat):Int)])
    rw[show ((i+2:Nat):Int)=3+(i:Int)-1 by omega];exact ai (ai aa hu3) hr2
 ·rintro σ H1 ⟨r,v2,v3,rfl,s1,⟨rs,hr1,hp1⟩,_⟩
  have hlr:rs.length=4+2*(m-3):=by rw[Paired.length hp1,jc]
  refine {_,rfl,_,1,rfl,rfl,1,(m:Int)-1,.inr rfl,λrg hrg=>.inr {rg,1,(m:Int)-1,rfl,aa,(),(),(),(),λl1 hl1=>?_}};have s2:=(ag.upd (o:=.rng 1 ((m:Int)-1)) hrg).trans (ag.upd (o:=.lst (o0 1 ((m:Int)-1))) hl1);refine ⟨_,rfl,_,rfl,_,1,rfl,rfl,(by show 2<=sizeLine;decide),λl2 hl2=>?_⟩;have s3:=s2.trans (ag.upd (o:=.lst [.int (m:Int),.int ((m:Int)-1)]) hl2);refine .inr (.inl {l1,l2,_,_,rfl,rfl,ai aa hl2,aa,?_,λoA hoA=>?_})
  ·unfold o0
   rw[length_map,length_range];exact Nat.le_of_lt (al (by show _+2<=_;omega))
  have eo:o0 1 ((m:Int)-1)++[V.int (m:Int),V.int ((m:Int)-1)]=(gL m).map V.int:=by
   unfold o0 gL;rw[map_append,map_map,show ((m:Int)-1-1).toNat=m-2 by omega];congr 1
   ·refine List.map_congr_left λi _=>?_
    show V.int (1+(i:Int))=V.int ((i+1:Nat):Int);rw[show ((i+1:Nat):Int)=1+(i:Int) by omega]
   ·show [V.int (m:Int),V.int ((m:Int)-1)]=[V.int (m:Int),V.int ((m-1:Nat):Int)]
    rw[show ((m-1:Nat):Int)=(m:Int)-1 by omega]
  rw[eo];have s4:=s3.trans (ag.upd (o:=.lst ((gL m).map V.int)) hoA);generalize hH2:upd (upd (upd (upd H1 rg (.rng 1 ((m:Int)-1))) l1 (.lst (o0 1 ((m:Int)-1)))) l2 (.lst [.int (m:Int),.int ((m:Int)-1)])) oA (.lst ((gL m).map V.int))=H2 at s4 ⊢;have hoA2:H2 oA=some (.lst ((gL m).map V.int)):=by rw[<- hH2];exact aa
  refine ⟨_,rfl,_,rfl,(by show 2<=sizeLine;decide),λu1 hu1=>?_⟩;refine ⟨_,rfl,_,1,rfl,rfl,(by show 2<=sizeLine;decide),λu2 hu2=>?_⟩;refine ⟨(by show 2<=sizeLine;decide),λu3 hu3=>?_⟩;have s5:=((ag.upd (o:=.tup [.int 0,.int (m:Int)]) hu1).trans (ag.upd (o:=.tup [.int 0,.int ((m:Int)-1)]) hu2)).trans (ag.upd (o:=.lst [.ref u1,.ref u2]) hu3);refine .inr (.inl {r,u3,_,_,rfl,rfl,s5 _ _ (s4 _ _ hr1),aa,?_,λr2 hr2=>?_})
  ·rw[length_map,hlr]
   exact Nat.le_of_lt (al (by show 4+2*(m-3)+2<=_;omega))
  have s6:=s5.trans (ag.upd (o:=.lst (rs.map V.ref++[.ref u1,.ref u2])) hr2);have hrow:∃rs2:List Addr,rs.map V.ref++[V.ref u1,V.ref u2]=rs2.map V.ref/\Paired (KpT (upd (upd (upd (upd H2 u1 (.tup [.int 0,.int (m:Int)])) u2 (.tup [.int 0,.int ((m:Int)-1)])) u3 (.lst [.ref u1,.ref u2])) r2 (.lst (rs.map V.ref++[.ref u1,.ref u2])))) rs2 (Yd.iS m (m-3)++[(0,m),(0,m-1)]):=by
   refine ⟨rs++[u1,u2],by rw[map_append];rfl,Paired.append (Paired.imp (λ_ _ z=>s6 _ _ (s4 _ _ z)) hp1) (.cons ?_ (.cons ?_ .nil))⟩
   ·exact ai (ai (ai aa hu2) hu3) hr2
   ·show _=some (HO.tup [.int ((0:Nat):Int),.int ((m-1:Nat):Int)])
    rw[show ((m-1:Nat):Int)=(m:Int)-1 by omega];exact ai (ai aa hu3) hr2
  obtain ⟨rs2,ers,hp2⟩:=hrow;rw[ers] at s6 hp2 ⊢;generalize hH3:upd (upd (upd (upd H2 u1 (.tup [.int 0,.int (m:Int)])) u2 (.tup [.int 0,.int ((m:Int)-1)])) u3 (.lst [.ref u1,.ref u2])) r2 (.lst (rs2.map V.ref))=H3 at s6 hp2 ⊢;have hr3:H3 r2=some (.lst (rs2.map V.ref)):=by rw[<- hH3];exact aa
  generalize hrw:Yd.iS m (m-3)++[(0,m),(0,m-1)]=row at hp2;have hin:∀x∈row,1<=x.2/\x.2<=m:=λx hx=>by
   rw[<- hrw] at hx;rcases mem_append.mp hx with hx | hx
   ·exact sO hm (Nat.le_refl _) x hx
   ·simp only[mem_cons,mem_nil_iff,or_false] at hx
    rcases hx with rfl | rfl<;>dsimp only<;>omega
  have hll:row.length=2*m:=by rw[<- hrw,length_append,jc];simp only[length_cons,length_nil];omega
  refine {r2,rfl,{_,SqL.of hr3},λp hp=>?_}
  let Iv2:Nat->St->Hp->Prop:=λi σ H4=>(∃a b,σ=[a,b,some (.ref oA)])/\ag H3 H4/\H4 p=some (.lst (((row.take i).map λx=>(Yd.dk m x:Int)).map V.int))
  refine bf (K:=K) (a:=r2) (xs:=rs2.map V.ref) Iv2
   ⟨⟨_,_,rfl⟩,ag.upd hp,aa⟩ (λi σ H4 _ h=>SqL.of (h.2.1 _ _ hr3)) ?_ ?_
  ·rintro i x σ H4 hx ⟨⟨a,b,rfl⟩,s7,h4⟩
   obtain ⟨t,et,rfl⟩:=aX hx;obtain ⟨y,ey,hy⟩:=Paired.get hp2 et;have hy4:H4 t=some (.tup [.int (y.1:Int),.int (y.2:Int)]):=s7 _ _ hy;obtain ⟨y1,y2⟩:=hin y (mem_of_getElem? ey);refine {t,_,rfl,SqT.of hy4,rfl,_,_,rfl,_,_,rfl,rfl,?_};have ho4:=s7 _ _ (s6 _ _ hoA2);refine ⟨_,rfl,.inl {rfl,_,SqL.of ho4},_,rfl,oA,gL m,(y.2:Int),rfl,rfl,SqL.of ho4,by rw[pP hm];omega,λz hz=>?_,mem_of_getElem? (lU hm y1 y2),?_⟩
   ·obtain ⟨k,rfl,k1,k2⟩:=wN hm hz
    omega
   rw[wO hm y1 y2];refine .inl {2,((Yd.fB m y.2:Nat):Int),rfl,rfl,.inl (by decide),?_};refine {V.int (y.1:Int),rfl,?_};refine .inl {2*((Yd.fB m y.2:Nat):Int),(y.1:Int),rfl,rfl,?_};refine {_,h4,?_,{_,_,rfl},ag.updN s7 hp,?_}
   ·rw[length_map,length_map,length_take]
    exact al ()
   ·rw[aa,aJ ey,map_append,map_append]
    show some (HO.lst (_++[V.int (2*((Yd.fB m y.2:Nat):Int)+(y.1:Int))]))=some (HO.lst (_++[V.int ((Yd.dk m y:Nat):Int)]));rw[show ((Yd.dk m y:Nat):Int)=2*((Yd.fB m y.2:Nat):Int)+(y.1:Int) by unfold Yd.dk;omega]
  rintro σ H4 ⟨_,s7,h4⟩;rw[length_map,Paired.length hp2,take_length,<- hrw,Yd.wu hm] at h4;exact kQ p H4 (((s1.trans s4).trans s6).trans s7) (((s1.trans s4).trans s6).free hp) h4
inductive lV(K:PySem.W.Frag)(vs:List V)(H:Hp)(Q:VK)(u3:XK):Prop
 | mk (tA a:Addr) (T ns:List Int):vs=[.ref tA,.ref a]->H tA=some (.lst (T.map V.int))->SqL K H a (ns.map V.int)->T.length<1000->(∀(p:Addr) (T':List Int) (H':Hp),ag H H'->H p=none->H' p=some (.lst (T'.map V.int))->T'.Perm T->Q (.ref p) H')->lV K vs H Q u3
def c9:ak ["_law_train", "_law_script", "_law_one", "_law_other", "_law_found"] ["_law_train", "_law_script"] (ah dH):=by o_head AA
def lW(T:Tx K mg Z):Ctr P w K mg base CX0 1 "_law_spoiled" ["_law_train", "_law_script"] (lV K):=by
 o_head (AB T.bD c9)
 obtain ⟨tA,a,tr,ns,rfl,hT,hS,hz,kQ⟩:=h;refine' {_,?hterm,?_}
 case hterm=>
  have c:=c9;refine' aj ?q1 ?q2
  case q1=>
   refine' pX (i:=2) (j:=3) rfl c9.nd rfl rfl (by decide) rfl rfl ?q3 (by kernel_rfl) (hs:=by kernel_rfl)
   case q3=>o_head (l (xu (xj (l 1 a)) (xf (l c (l (t (l 0 a)) a)))) (l (xu (xv (xj (l 1 a)) c) (xf (l c (l (t (l 0 a)) a)))) a))
  case' q2=>refine' aj ?q22 ?q23
  case q22=>o_head (o 4 (xl (l 0 a)))
  case' q23=>refine' aj ?q26 ?q27
  case q26=>
   refine' bU ?q28 ?q29 aS
   case q28=>o_head (xG 0 (z a))
   case' q29=>refine' ax ?q31
   case' q31=>refine' pW ?q32 ?q33 (hs:=by kernel_rfl) (hw:=by kernel_rfl)
   case q32=>o_head (A (l (v 0 3) (l (v 0 2) a)))
   case q33=>o_head (N 2 (H (xZ 4 2) (H (xZ 4 3) h)))
  case q27=>o_head (k (n 4))
 have mx:∃m:Nat,(if ((tr.map V.int).length:Int)>1 then ((tr.map V.int).length:Int) else 1)=(m:Int)/\1<=m/\m<1000/\(tr≠[]->m=tr.length):=by
  rw[length_map]
  by_cases h1:(tr.length:Int)>1
  ·rw[if_pos h1]
   exact {tr.length,rfl,(),hz,λ_=>rfl}
  ·rw[if_neg h1]
   refine ⟨1,rfl,Nat.le_refl _,by decide,λhne=>?_⟩;have:=List.length_pos_iff.mpr hne;omega
 obtain ⟨m,em,m1,m2,m3⟩:=mx;refine {_,rfl,a,ns,rfl,hS,_,rfl,_,_,rfl,.inl {_,SqL.of hT,rfl},1,_,rfl,?_};rw[em];refine ⟨_,_,rfl,rfl,(by show (0:Int)<m;omega),?_⟩;refine {_,rfl,a,ns,rfl,hS,_,7,rfl,rfl,⟨by decide,by decide⟩,_,rfl,_,_,rfl,.inl {_,SqL.of hT,rfl},1,_,rfl,?_};rw[em];refine ⟨_,_,rfl,rfl,(by show (0:Int)<m;omega),_,_,rfl,?_⟩;have nz:(m:Int)≠0:=()
 have b0:=emod_nonneg ns.sum nz;have b1:=emod_lt_of_pos ns.sum (show (0:Int)<m by omega);have c0:=emod_nonneg (ns.sum/7) nz;have c1:=emod_lt_of_pos (ns.sum/7) (show (0:Int)<m by omega);obtain ⟨i,ei⟩:∃i:Nat,ns.sum%(m:Int)=(i:Int):=⟨(ns.sum%(m:Int)).toNat,()⟩;obtain ⟨j,ej⟩:∃j:Nat,ns.sum/7%(m:Int)=(j:Int):=⟨(ns.sum/7%(m:Int)).toNat,()⟩
 first | dsimp only | dsimp only[L2.cR.sq,L2.cR.lp]
 rw[ei,ej];rw[ei] at b1;rw[ej] at c1;refine {_,rfl,tA,_,rfl,.inl (SqL.of hT),λp hp=>?_};have s1:=ag.upd (o:=.lst (tr.map V.int)) hp;refine {_,rfl,zero_le _,λe he=>.inr {dI tr,dI [],.ints (SqL.of (ai (s1 _ _ hT) he)),.ints (SqL.of aa),bq _ _,bq _ _,_,rfl,?_}};have s2:=s1.trans (ag.upd (o:=.lst []) he);have hp2:upd (upd H p (.lst (tr.map V.int))) e (.lst []) p=some (.lst (tr.map V.int)):=ai aa he;refine oU (λhne=>?_) (λ_=>?_)
 ·have hne':tr≠[]:=λz=>hne (by rw[z])
  have hm:=m3 hne';obtain ⟨x,ex⟩:∃x,tr[i]?=some x:=⟨_,List.getElem?_eq_getElem ()⟩;obtain ⟨y,ey⟩:∃y,tr[j]?=some y:=⟨_,List.getElem?_eq_getElem ()⟩;refine ⟨_,rfl,_,rfl,.inl ⟨tA,_,_,.int y,rfl,rfl,SqL.of (s2 _ _ hT),am (by rw[getElem?_map,ey];rfl),?_⟩⟩;refine ⟨_,rfl,_,rfl,.inl ⟨tA,_,_,.int x,rfl,rfl,SqL.of (s2 _ _ hT),am (by rw[getElem?_map,ex];rfl),?_⟩⟩;refine ⟨(by show 2<=sizeLine;decide),λu hu=>⟨u,_,rfl,SqT.of aa,rfl,_,_,rfl,?_⟩⟩;have s3:=s2.trans (ag.upd (o:=.tup [.int y,.int x]) hu);refine ⟨_,rfl,_,rfl,p,_,_,i,rfl,rfl,ai hp2 hu,fu (by rw[length_map];omega),_,_,rfl,?_⟩
  refine ⟨_,rfl,_,rfl,p,_,_,j,rfl,rfl,aa,fu (by rw[length_set,length_map];omega),rfl,?_⟩;refine {_,rfl,kQ p ((tr.set i y).set j x) _ (ag.updN (ag.updN s3 hp) hp) hp (by rw[aa,map_set,map_set]) (ug ex ey)}
 ·exact {_,rfl,kQ p tr _ s2 hp hp2 (List.Perm.refl _)}
inductive sP(K:PySem.W.Frag)(vs:List V)(H:Hp)(Q:VK)(u3:XK):Prop
 | mk (a:Addr) (ns:List Int) (b:Bool) (n:Nat):vs=[.ref a,.bl b,.int n]->b=true->SqL K H a (ns.map V.int)->ns.length<64->1<=n->n<=100->(∀(p:Addr) (T:List Int) (ms:List Yd.Mv) (H':Hp),ag H H'->H p=none->H' p=some (.lst (T.map V.int))->T.Perm (Yd.R ns.length)->Yd.bt T b n ms->Q (.ref p) H')->sP K vs H Q u3
structure ml(H H2:Hp)(kA lA:Addr)(ls:List Addr)(len n:Nat)(b:Bool)(i:Nat)(st:Yd.St)(ms:List Yd.Mv):Prop where
 same:ag H H2
 go:Yd.steps (Yd.R len) b (Yd.init n) ms=some st
 val:∀m∈ms,m.2<n
 came:st.came=i
 yds:Yds H H2 kA ls st.tr
 left:H2 lA=some (.lst (st.left.map V.int))
def ml.len{H H2:Hp}{kA lA:Addr}{ls:List Addr}{len n:Nat}{b:Bool}{i:Nat}{st:Yd.St}{ms:List Yd.Mv}(m:ml H H2 kA lA ls len n b i st ms):st.tr.length=n/\ls.length=n:=by
 have h:=Yd.gP m.go;have e:(Yd.init n).tr.length=n:=by show (List.replicate n ([]:List Int)).length=n;rw[length_replicate]
 rw[e] at h;exact ⟨h,by rw[m.yds.len,h]⟩
def ml.count{H H2:Hp}{kA lA:Addr}{ls:List Addr}{len n:Nat}{b:Bool}{i:Nat}{st:Yd.St}{ms:List Yd.Mv}(m:ml H H2 kA lA ls len n b i st ms):st.left.length+(st.tr.map List.length).sum=i:=by
 rw[<- m.came];exact Yd.cO m.go (λx hx=>by show x.2<(List.replicate n ([]:List Int)).length;rw[length_replicate];exact m.val x hx) (Yd.fv n)
def MdB(H5:Hp)(a kA:Addr)(b:Bool)(n len:Nat)(tr:List (List Int))(v5 v6:Option V)(j:Nat)(σ:St)(H6:Hp):Prop:=
 ∃(qA:Addr) (st':Yd.St) (ms':List Yd.Mv) (v7:Option V),σ=[some (.ref a),some (.bl b),some (.int n),some (.ref kA),some (.ref qA),v5,v6,v7,none,none]/\ag H5 H6 /\
  Yd.steps (Yd.R len) b (Yd.init n) ms'=some st'/\(∀m∈ms',m.2<n)/\st'.came=len/\st'.tr=List.replicate j []++tr.drop j/\H6 qA=some (.lst (st'.left.map V.int))
def b8:ak ["_law_script", "_law_blind", "_law_many", "_law_tracks", "_law_left", "_law_n", "_law_turn", "_law_track", "_law_train", "_law_at"] ["_law_script", "_law_blind", "_law_many"] (ah cQ):=by o_head AA
def pQ(T:Tx K mg Z):Ctr P w K mg base CX0 1 "_law_made" ["_law_script", "_law_blind", "_law_many"] (sP K):=by
 o_head (AB T.bC b8)
 obtain ⟨a,ns,b,n,rfl,hbt,hS,hz,hn1,hn2,kQ⟩:=h;refine' {_,?hterm,?_}
 case hterm=>
  have c:=b8;refine' aj ?q1 ?q2
  case q1=>
   refine' pX (i:=3) (j:=4) rfl b8.nd rfl rfl (by decide) rfl rfl ?q3 (by kernel_rfl) (hs:=by kernel_rfl)
   case q3=>o_head (l (V cQ ["_law_script", "_law_blind", "_law_many", "_law_tracks", "_law_left", "_law_n", "_law_turn", "_law_track", "_law_train", "_law_at"] [none] ["_law_track"] (J (l 2 a)) (W 0 ["_law_track"]) (z a)) (l (z a) a))
  case' q2=>refine' aj ?q11 ?q12
  case q11=>o_head (B (J (l (t (l 0 a)) a)) (U 5) (j (p (D (v 3 (xu (v 0 5) 2)) (l 5 a))) (k (B (J (l (xu (xv (v 0 5) 2) c) a)) (U 6) (j (o 7 (xu (R (xv (xv (v 0 5) 2) c) 6) 2)) (k (q (xG (v 3 7) (z a)) (k (p (D 4 (l (xe (s 1) (xS (v 3 7)) (xU (v 3 7) (l c a))) a)))) d)))))))
  case' q12=>refine' aj ?q56 ?q57
  case q56=>
   refine' kI HP rfl ?q58 ?q59 ?q60
   case q58=>o_head (I 3)
   case q59=>o_head (U 7)
   case' q60=>refine' ax ?q61
   case' q61=>refine' kB (i:=4) b8.nd rfl (Or.inl rfl) ?q62
   case' q62=>refine' fJ (gN (K:=K) (by rfl)) (pv 4) ?q63
   case' q63=>refine' oq ?q64 ?q65 (pv 7)
   case q64=>o_head (s 1)
   case' q65=>refine' A8 (K:=K) (by rfl) (pv 7) rE ?q66
   case q66=>o_head (S (y c))
  case' q57=>refine' aj ?q68 ?q69
  case q68=>
   refine' kY (i:=8) b8.nd rfl rfl rfl (kX (sc:=ah cQ) (N:=["_law_script", "_law_blind", "_law_many", "_law_tracks", "_law_left", "_law_n", "_law_turn", "_law_track", "_law_train", "_law_at"]) (cap:=[none]) (N':=["_law_wagon"]) rfl rfl ⟨ rfl,by decide +kernel,by decide +kernel,by decide +kernel,rfl,by decide +kernel ⟩) ?q70 (λ_ _ _ _=>?q71) (λ_ _ _ _=>ki) (λ_ _ _ _=>eu)
   case q70=>o_head (I 4)
   case q71=>o_head (W 0 ["_law_wagon"])
  case q69=>o_head (j (B (J (l (t (l 4 a)) a)) (U 9) (k (Z 9 (xZ 8 (v 4 9))))) (k (n 8)))
 refine {_,rfl,(n:Int),rfl,(),(),λkA hkA=>?_};rw[toNat_natCast]
 let Iv1:Nat->St->Hp->Prop:=λi σ H3=>(∃v,σ=[v])/\ag H H3/\∃ls:List Addr,Yds H H3 kA ls (List.replicate i [])
 refine dW (lo:=0) (n:=n) Iv1
  ⟨⟨_,rfl⟩,ag.upd hkA,[],aa,rfl,λj l e=>by simp at e,λi j l e=>by simp at e⟩ ?_ ?_
 ·rintro i σ H3 hi ⟨⟨v,rfl⟩,s3,ls,hy⟩
  refine {zero_le _,λl hl=>{_,(hy.same (ag.upd hl)).lst,?_,{_,rfl},?_,ls++[l],?_}}
  ·rw[length_map,hy.len,length_replicate]
   exact aw ()
  ·exact ag.updN (s3.trans (ag.upd hl)) hkA
  ·have:=hy.push s3 hl
   rw[replicate_succ'];exact this
 rintro σ H3 ⟨_,s3,ls,hy⟩;refine {zero_le _,λlA hlA=>{_,_,rfl,?_}};have s4:ag H3 (upd H3 lA (.lst [])):=ag.upd hlA;have hlH:H lA=none:=s3.free hlA;have ekl:kA≠lA:=af hy.lst hlA;have ell:∀(j:Nat) l,ls[j]?=some l->l≠lA:=λj l e=>by
  obtain ⟨c,_,a,_⟩:=hy.each j l e;exact af a hlA
 have hS3:=(s3.trans s4).seq hS;refine {_,rfl,_,_,rfl,.inl {_,hS3,rfl},_,rfl,?_,?_,?_}
 ·rw[length_map];omega
 ·rw[length_map];omega
 rw[toNat_natCast,length_map];have leave:∀{H5 H6:Hp} {i:Nat} {st:Yd.St} {ms:List Yd.Mv} {t:Nat} {l:Addr} {x:Int} {c c':List Int},ml H H5 kA lA ls ns.length n b i st ms->ag H5 H6->ls[t]?=some l->st.tr[t]?=some c->(if b=true then c=c'++[x] else c=x::c')->
   ml H (upd (upd H6 l (.lst (c'.map V.int))) lA (.lst (st.left.map V.int++[.int x]))) kA lA ls ns.length n b i ⟨st.tr.set t c',st.left++[x],st.came⟩ (ms++[(false,t)]):=λ{H5 H6 i st ms t l x c c'} M s6 el ec hc=>by
  have hl0:H l=none:=by
   obtain ⟨_,_,_,z,_⟩:=M.yds.each _ _ el;exact z
  have hD:st.tr.getD t []=c:=by rw[getD_eq_getElem?_getD,ec];rfl
  have hs:Yd.step (Yd.R ns.length) b st (false,t)=some ⟨st.tr.set t c',st.left++[x],st.came⟩:=by
   unfold Yd.step;rw[if_neg Bool.false_ne_true];cases b with
   | true=>
    have hc':c=c'++[x]:=by simpa using hc
    rw[if_pos rfl];simp only[hD,hc'];rw[getLast?_append];simp
   | false=>exact absurd hbt (by decide)
  have tl:=(List.getElem?_eq_some_iff.mp el).1;refine ⟨ag.updN (ag.updN (M.same.trans s6) hl0) hlH,Yd.gb M.go (by show (Yd.step _ _ _ _).bind _=_;rw[hs];rfl),λm hm=>?_,M.came,((M.yds.same s6).set el c').other ekl ell,?_⟩
  ·rcases mem_append.mp hm with z | z
   ·exact M.val m z
   ·rw[show m=(false,t) by simpa using z]
    show t<n;have:=M.len.2;omega
  ·rw[aa,map_append]
   rfl
 let Iv2:Nat->St->Hp->Prop:=λi σ H5=>∃(st:Yd.St) (ms:List Yd.Mv) (v5 v6 v7:Option V),σ=[some (.ref a),some (.bl b),some (.int n),some (.ref kA),some (.ref lA),v5,v6,v7,none,none]/\ml H H5 kA lA ls ns.length n b i st ms
 refine ce (lo:=0) (n:=ns.length) Iv2
  ⟨Yd.init n,[],none,none,none,rfl,⟨s3.trans s4,rfl,λm hm=>by (cases hm),rfl,hy.same s4,aa⟩⟩ ?_ ?_
 ·rintro i σ H5 hi ⟨st,ms,v5,v6,v7,rfl,M⟩
  rw[show (0:Int)+(i:Int)=(i:Int) from Int.zero_add _];obtain ⟨c,ec⟩:∃c,ns[i]?=some c:=⟨_,List.getElem?_eq_getElem hi⟩;have ecV:(ns.map V.int)[i]?=some (.int c):=by rw[getElem?_map,ec];rfl
  have nz:(n:Int)≠0:=()
  have t0:=emod_nonneg c nz;have t1:=emod_lt_of_pos c (show (0:Int)<n by omega);obtain ⟨t,et⟩:∃t:Nat,c%(n:Int)=(t:Int):=⟨(c%(n:Int)).toNat,()⟩;obtain ⟨hl1,hl2⟩:=M.len;obtain ⟨l,el⟩:∃l,ls[t]?=some l:=⟨_,List.getElem?_eq_getElem ()⟩;obtain ⟨d,ed,hl,hl0,hlk⟩:=M.yds.each _ _ el;have hcnt:=M.count;have hdl:d.length<=i:=by
   have:=Yd.qy (mem_map.mpr ⟨d,mem_of_getElem? ed,rfl⟩:d.length∈st.tr.map List.length);omega
  refine ⟨_,rfl,_,rfl,_,rfl,.inl ⟨a,_,_,.int c,rfl,rfl,M.same.seq hS,am ecV,_,rfl,_,_,rfl,rfl,(by show (0:Int)<n;omega),?_⟩⟩;refine .inl ⟨kA,_,_,.ref l,rfl,rfl,SqL.of M.yds.lst,(by rw[et];exact am (by rw[getElem?_map,el];rfl)),.inl ⟨rfl,_,SqL.of hl⟩,_,rfl,l,_,_,rfl,rfl,hl,(by rw[length_map];exact aw ()),?_⟩;have hs:Yd.step (Yd.R ns.length) b st (true,t)=some ⟨st.tr.set t (d++[(i:Int)]),st.left,st.came+1⟩:=by
   unfold Yd.step;rw[if_pos rfl,M.came,Yd.vL hi];show some (Yd.St.mk (st.tr.set t (st.tr.getD t []++[(i:Int)])) st.left (i+1))=_;rw[getD_eq_getElem?_getD,ed];rfl
  have M1:ml H (upd H5 l (.lst (d.map V.int++[.int i]))) kA lA ls ns.length n b (i+1) ⟨st.tr.set t (d++[(i:Int)]),st.left,st.came+1⟩ (ms++[(true,t)]):=by
   have y6:=M.yds.set el (d++[(i:Int)]);rw[map_append] at y6;refine ⟨ag.updN M.same hl0,Yd.gb M.go (by show (Yd.step _ _ _ _).bind _=_;rw[hs];rfl),λm hm=>?_,by show st.came+1=i+1;rw[M.came],y6,by rw[ae (ell _ _ el).symm];exact M.left⟩;rcases mem_append.mp hm with z | z
   ·exact M.val m z
   ·rw[show m=(true,t) by simpa using z]
    show t<n;omega
  generalize upd H5 l (.lst (d.map V.int++[.int i]))=H6 at M1 ⊢;refine ⟨_,rfl,_,rfl,.inl ⟨a,_,_,.int c,rfl,rfl,M1.same.seq hS,am ecV,_,rfl,_,_,rfl,rfl,⟨by omega +splitMinMax,by omega +splitMinMax⟩,_,3,rfl,rfl,(by show (0:Int)<3;decide),?_⟩⟩;have r0:=emod_nonneg (c/(n:Int)) (show (3:Int)≠0 by decide);have r1:=emod_lt_of_pos (c/(n:Int)) (show (0:Int)<3 by decide);refine {_,rfl,(),(),?_}
  let Iv3:Nat->St->Hp->Prop:=λi' σ H5=>∃(st:Yd.St) (ms:List Yd.Mv) (v6 v7:Option V),σ=[some (.ref a),some (.bl b),some (.int n),some (.ref kA),some (.ref lA),some (.int i),v6,v7,none,none]/\ml H H5 kA lA ls ns.length n b (i+1) st ms
  refine ce (lo:=0) Iv3
   ⟨_,_,_,_,rfl,M1⟩ ?_ ?_
  ·rintro i' σ H7 hi' ⟨st',ms',v6,v7,rfl,M⟩
   refine ⟨_,rfl,_,rfl,.inl ⟨a,_,_,.int c,rfl,rfl,M.same.seq hS,am ecV,_,rfl,_,_,rfl,rfl,⟨by omega +splitMinMax,by omega +splitMinMax⟩,_,3,rfl,rfl,⟨by decide,by decide⟩,_,rfl,.inl ⟨_,_,rfl,rfl,_,rfl,_,_,rfl,rfl,(by show (0:Int)<n;omega),?_⟩⟩⟩
   first | dsimp only | dsimp only[L2.cR.sq,L2.cR.lp]
   generalize hu:c/(n:Int)/3+(0+(i':Int))=u;have u0:=emod_nonneg u nz;have u1:=emod_lt_of_pos u (show (0:Int)<n by omega);obtain ⟨t',et'⟩:∃t:Nat,u%(n:Int)=(t:Int):=⟨(u%(n:Int)).toNat,()⟩;rw[et'];obtain ⟨hl1,hl2⟩:=M.len;obtain ⟨l',el'⟩:∃l,ls[t']?=some l:=⟨_,List.getElem?_eq_getElem ()⟩;obtain ⟨d',ed',hl',hl0',hlk'⟩:=M.yds.each _ _ el';have elV:(ls.map V.ref)[t']?=some (.ref l'):=by rw[getElem?_map,el'];rfl
   have hcnt':=M.count;refine {_,rfl,_,rfl,.inl {kA,_,_,.ref l',rfl,rfl,SqL.of M.yds.lst,am elV,?_}};refine {zero_le _,λeL heL=>.inr {dI d',dI [],.ints (SqL.of (ai hl' heL)),.ints (SqL.of aa),bq _ _,bq _ _,_,rfl,?_}};have sE:ag H7 (upd H7 eL (.lst [])):=ag.upd heL;have yE:=M.yds.same sE;have hlE:=sE _ _ hl';have ME:ml H (upd H7 eL (.lst [])) kA lA ls ns.length n b (i+1) st' ms':=⟨M.same.trans sE,M.go,M.val,M.came,yE,sE _ _ M.left⟩;refine oU (λhc=>?_) (λhc=>{st',ms',_,_,rfl,ME});have hne:d'≠[]:=λz=>hc (by rw[z]);refine {_,rfl,.inl {rfl,_,SqL.of ME.left},_,rfl,b,rfl,?_};have hsm:(st'.left.map V.int).length<sizeLine:=by rw[length_map];exact aw ()
   cases b with
   | true=>
    have hx:=List.dropLast_concat_getLast hne;refine dw {_,rfl,_,rfl,.inl {kA,_,_,.ref l',rfl,rfl,SqL.of yE.lst,am elV,.inl {rfl,_,SqL.of hlE},.inl {l',_,.int (d'.getLast hne),rfl,rfl,hlE,?_,?_}}}
    ·rw[length_map,getElem?_map]
     have hp:=List.length_pos_iff.mpr hne;rw[List.getElem?_eq_getElem (),List.getLast_eq_getElem hne];rfl
    have hL6:upd (upd H7 eL (.lst [])) l' (.lst ((d'.map V.int).dropLast)) lA=some (.lst (st'.left.map V.int)):=by rw[ae (ell _ _ el').symm];exact ME.left
    refine {lA,_,_,rfl,rfl,hL6,hsm,?_};have M2:=leave M sE el' ed' (x:=d'.getLast hne) (c':=d'.dropLast) (by rw[if_pos rfl];exact hx.symm);rw[map_dropLast] at M2;exact {_,_,_,_,rfl,M2}
   | false=>exact absurd hbt (by decide)
  ·rintro σ H7 ⟨st',ms',v6,v7,rfl,M⟩
   exact {st',ms',_,_,_,rfl,M}
 rintro σ H5 ⟨st,ms,v5,v6,v7,rfl,M⟩;obtain ⟨hl1,hl2⟩:=M.len;have hcnt:=M.count;refine {_,rfl,kA,rfl,{_,SqL.of M.yds.lst},?_};refine eK (K:=K) (a:=kA) (xs:=ls.map V.ref) (MdB H5 a kA b n ns.length st.tr v5 v6)
  ⟨lA,st,ms,v7,rfl,ag.refl _,M.go,M.val,M.came,rfl,M.left⟩ (λj σ H6 _ h=>?_) ?_ ?_
 ·obtain ⟨_,_,_,_,_,s6,_⟩:=h
  exact SqL.of (s6 _ _ M.yds.lst)
 ·rintro j x σ H6 hx ⟨qA,st',ms',v7',rfl,s6,hgo,hval,hcame,htr,hq⟩
  obtain ⟨l,el,rfl⟩:=aX hx;obtain ⟨d,ed,hl,hl0,hlk⟩:=M.yds.each _ _ el;have hj:j<n:=by have:=(List.getElem?_eq_some_iff.mp el).1;omega
  have ed':st'.tr[j]?=some d:=by
   rw[htr,getElem?_append_right (by rw[length_replicate];exact Nat.le_refl _),length_replicate,sub_self,List.getElem?_drop,Nat.add_zero];exact ed
  have hcl:=Yd.clear (T:=Yd.R ns.length) (bl:=b) ed';have hcnt2:st'.left.length+(st'.tr.map List.length).sum=ns.length:=by
   rw[<- hcame];exact Yd.cO hgo (λx hx=>by show x.2<(List.replicate n ([]:List Int)).length;rw[length_replicate];exact hval x hx) (Yd.fv n)
  have hdl:d.length<=(st'.tr.map List.length).sum:=Yd.qy (mem_map.mpr ⟨d,mem_of_getElem? ed',rfl⟩);have fin:∀(H7:Hp) (e5:List Int) (q2:Addr),ag H6 H7->e5=(if b=true then d.reverse else d)->H7 q2=none->
    MdB H5 a kA b n ns.length st.tr v5 v6 (j+1) [some (V.ref a),some (.bl b),some (.int n),some (.ref kA),some (.ref q2),v5,v6,some (.ref l),none,none] (upd H7 q2 (.lst (st'.left.map V.int++e5.map V.int))):=λH7 e5 q2 s7 he hq2=>by
   refine ⟨q2,{st'.tr.set j [],st'.left++e5,st'.came},ms'++List.replicate d.length (false,j),_,rfl,(s6.trans s7).trans (ag.upd hq2),Yd.gb hgo (by rw[hcl,he]),λm hm=>?_,hcame,?_,by rw[aa,map_append]⟩
   ·rcases mem_append.mp hm with z | z
    ·exact hval m z
    ·rw[(List.mem_replicate.mp z).2];exact hj
   ·show st'.tr.set j []=_
    rw[htr];exact Yd.yA ()
  have hlE:=s6 _ _ hl;refine {_,rfl,_,rfl,b,rfl,?_};cases b with
  | true=>
   refine dw {_,rfl,1,rfl,_,rfl,rfl,l,_,rfl,SqL.of hlE,λq1 hq1=>?_};rw[vI,<- List.map_reverse];refine .inr (.inl {qA,q1,_,_,rfl,rfl,ai hq hq1,aa,?_,λq2 hq2=>fin _ d.reverse q2 (ag.upd hq1) (by rw[if_pos rfl]) hq2});rw[length_map,length_map,length_reverse];exact Nat.le_of_lt (aw ())
  | false=>exact absurd hbt (by decide)
 rintro σ H6 ⟨qA,st',ms',v7',rfl,s6,hgo,hval,hcame,htr,hq⟩;rw[length_map,hl2] at htr;have hll:st'.left.length=ns.length:=by
  have h1:=Yd.cO hgo (λx hx=>by show x.2<(List.replicate n ([]:List Int)).length;rw[length_replicate];exact hval x hx) (Yd.fv n);rw[htr,drop_of_length_le (),append_nil,Yd.vM,hcame] at h1;omega
 have hperm:=Yd.ue hgo hval hll;have hnd:st'.left.Nodup:=hperm.nodup_iff.mpr (Yd.km _);have hS6:=M.same.trans s6;refine {_,rfl,qA,rfl,{_,SqL.of hq},λtA htA=>?_}
 let Iv4:Nat->St->Hp->Prop:=λi σ H7=>(∃v,σ=[v])/\ag H6 H7/\H7 tA=some (.lst ((List.replicate i (0:Int)).map V.int))
 refine bf (K:=K) (a:=qA) (xs:=st'.left.map V.int) Iv4
  ⟨⟨_,rfl⟩,ag.upd htA,aa⟩ (λi σ H7 _ h=>SqL.of (h.2.1 _ _ hq)) ?_ ?_
 ·rintro i x σ H7 hx ⟨⟨v,rfl⟩,s7,h7⟩
  have hi:=(List.getElem?_eq_some_iff.mp hx).1;rw[length_map] at hi;refine {_,h7,?_,{_,rfl},ag.updN s7 htA,?_}
  ·rw[length_map,length_replicate]
   exact aw ()
  ·rw[aa,replicate_succ',map_append]
   rfl
 rintro σ H7 ⟨_,s7,h7⟩;rw[length_map] at h7;have eqt:qA≠tA:=af hq htA;refine {_,rfl,_,_,rfl,.inl {_,SqL.of (s7 _ _ hq),rfl},_,rfl,?_,?_,?_}
 ·rw[length_map];omega
 ·rw[length_map];omega
 rw[toNat_natCast,length_map]
 let Iv5:Nat->St->Hp->Prop:=λi σ H8=>∃(T:List Int) (v9:Option V),σ=[some (.ref a),some (.bl b),some (.int n),some (.ref kA),some (.ref qA),v5,v6,v7',some (.ref tA),v9]/\ag H6 H8/\H8 tA=some (.lst (T.map V.int))/\T.length=ns.length/\∀(j:Nat) (x:Int),j<i->st'.left[j]?=some x->T[x.toNat]?=some (j:Int)
 refine ce (lo:=0) (n:=st'.left.length) Iv5
  ⟨List.replicate st'.left.length 0,_,rfl,s7,h7,by rw[length_replicate,hll],λj x hj=>absurd hj (Nat.not_lt_zero _)⟩ ?_ ?_
 ·rintro i σ H8 hi ⟨T,v9,rfl,s8,h8,hTl,hTat⟩
  rw[show (0:Int)+(i:Int)=(i:Int) from Int.zero_add _];obtain ⟨x,ex⟩:∃x,st'.left[i]?=some x:=⟨_,List.getElem?_eq_getElem hi⟩;have rng:∀{y:Int},y∈st'.left->0<=y/\y<ns.length:=λhy=>Yd.Ci (hperm.mem_iff.mp hy);obtain ⟨x0,x1⟩:=rng (mem_of_getElem? ex);obtain ⟨k,ek⟩:∃k:Nat,x=(k:Int):=⟨x.toNat,()⟩;refine ⟨_,rfl,_,rfl,_,rfl,_,rfl,.inl ⟨qA,_,_,.int x,rfl,rfl,SqL.of (s8 _ _ hq),am (by rw[getElem?_map,ex];rfl),tA,_,_,k,rfl,rfl,h8,?_,?_⟩⟩
  ·rw[ek]
   exact fu (by rw[length_map];omega)
  refine ⟨T.set k (i:Int),_,rfl,ag.updN s8 htA,by rw[aa,map_set],by rw[length_set];exact hTl,λj y hj ey=>?_⟩;obtain ⟨y0,y1⟩:=rng (mem_of_getElem? ey)
  by_cases hji:j=i
  ·subst hji
   rw[ex] at ey;cases ey;rw[ek,toNat_natCast,getElem?_set_self ()]
  ·have hne:y.toNat≠k:=λz=>by
    have:x=y:=()
    subst this;have h1:=(List.getElem?_eq_some_iff.mp ex);have h2:=(List.getElem?_eq_some_iff.mp ey);exact hji ((List.getElem_inj hnd).mp (h2.2.trans h1.2.symm))
   rw[getElem?_set_ne (Ne.symm hne)];exact hTat j y () ey
 ·rintro σ H8 ⟨T,v9,rfl,s8,h8,hTl,hTat⟩
  obtain ⟨B,hTp⟩:=Yd.oZ hgo hval hll hTl λj x e=>hTat j x (List.getElem?_eq_some_iff.mp e).1 e;exact {_,rfl,kQ tA T ms' H8 (hS6.trans s8) (hS6.free htA) h8 hTp B}
def Bu(s:Int):∃far:Int,0<far/\far<=10000000/\atI [V.int 1,V.int ((10:Int)^(7:Int).toNat),V.int 1] (s%3)=some (.int far):=by
 have h1:=emod_nonneg s (show (3:Int)≠0 by decide);have h2:=emod_lt_of_pos s (show (0:Int)<3 by decide);rcases (show s%3=0\/s%3=1\/s%3=2 by omega) with e | e | e<;>rw[e]
 ·exact ⟨1,by decide,by decide,rfl⟩
 ·exact ⟨10000000,by decide,by decide,rfl⟩
 ·exact ⟨1,by decide,by decide,rfl⟩
inductive jd(K:PySem.W.Frag)(vs:List V)(H:Hp)(Q:VK)(u3:XK):Prop
 | mk (a:Addr) (ns:List Int):vs=[.ref a]->SqL K H a (ns.map V.int)->ns.length<64->(∀(p:Addr) (ps:List Nat) (far:Int) (H':Hp),ag H H'->H p=none->H' p=some (.lst ((ps.map (Ins.wag ns far)).map V.int))->0<far->far<=10000000->ps.Perm (List.range ns.length)->Q (.ref p) H')->jd K vs H Q u3
def cG:ak ["_law_script", "_law_places", "_law_wagons", "_law_far", "_law_k", "_law_at"] ["_law_script"] (ah bM):=by o_head AA
def ke(T:Tx K mg Z):Ctr P w K mg base CX0 1 "_law_inserted" ["_law_script"] (jd K):=by
 o_head (AB T.bB cG)
 obtain ⟨a,ns,rfl,hS,hz,k⟩:=h;refine' {_,?hterm,?_}
 case hterm=>
  have c:=cG;refine' aj ?q1 ?q2
  case q1=>
   refine' pW ?q3 ?q4 (hs:=by kernel_rfl) (hw:=by kernel_rfl)
   case q3=>
    refine' qf ?q5
    case' q5=>refine' bB ?q6 ?q7
    case q6=>o_head (z a)
    case' q7=>refine' bB ?q8 ?q9
    case q8=>o_head (z a)
    case' q9=>refine' bB ?q10 fV
    case' q10=>refine' rH (AZ (K:=K) (by rfl)) ?q11 ?q12 (λ_ _=>rfl)
    case q11=>
     refine' qf ?q13
     case' q13=>refine' bB eu ?q14
     case' q14=>refine' bB ?q15 ?q16
     case q15=>exact fJ As eu eu
     case q16=>o_head (l c a)
    case q12=>o_head (xu (xj (l 0 a)) c)
   case' q4=>refine' rX (K:=K) (n:=3) (by rfl) rfl ?q19
   case' q19=>refine' kx ?q20 ?q21
   case q20=>o_head (U 1)
   case' q21=>refine' kx ?q22 ?q23
   case q22=>exact nv (i:=2) cG.nd (by rfl) (by exact Or.inr rfl)
   case q23=>o_head (H (U 3) h)
  case q2=>o_head (j (B (J (l (t (l 0 a)) a)) (U 4) (j (o 5 (xu (v 0 4) (R 4 c))) (j (o 1 (R (R (xc 1 i (S 5)) (z (l 4 a))) (xc 1 (S 5) i))) (k (p (D 2 (l (xw (xt (R (xw c 4) (xu (xv (v 0 4) c) c)) c) 3) a))))))) (k (n (V bM ["_law_script", "_law_places", "_law_wagons", "_law_far", "_law_k", "_law_at"] [none,some 2] ["_law_k", "_law_wagons"] (I 1) (W 0 ["_law_k", "_law_wagons"]) (v 1 0)))))
 obtain ⟨far,hf1,hf2,hat⟩:=Bu ns.sum;refine {zero_le _,λpA hpA=>{zero_le _,λwA hwA=>?_}};have s1:ag H (upd (upd H pA (.lst [])) wA (.lst [])):=(ag.upd hpA).trans (ag.upd hwA);refine ⟨10,7,rfl,rfl,⟨by decide,by decide,by decide⟩,(by show 3<=sizeLine;decide),λtA htA=>?_⟩;have s2:=s1.trans (ag.upd (o:=.tup [.int 1,.int ((10:Int)^(7:Int).toNat),.int 1]) htA);refine ⟨_,rfl,a,ns,rfl,s2.seq hS,_,3,rfl,rfl,(by show (0:Int)<3;decide),.inr ⟨tA,_,_,.int far,rfl,rfl,SqT.of aa,hat,?_⟩⟩;refine ⟨(by show 3<=sizeLine;decide),λuA huA=>⟨uA,_,rfl,SqT.of aa,rfl,_,_,rfl,_,_,rfl,_,_,rfl,rfl,?_⟩⟩;have s3:=s2.trans (ag.upd (o:=.tup [.ref pA,.ref wA,.int far]) huA)
 have epw:pA≠wA:=af aa hwA;refine {_,rfl,_,_,rfl,.inl {_,s3.seq hS,rfl},_,rfl,?_,?_,?_}
 ·rw[length_map];omega +splitMinMax
 ·rw[length_map];omega +splitMinMax
 rw[toNat_natCast,length_map];have hp0:upd (upd (upd (upd H pA (.lst [])) wA (.lst [])) tA (.tup [.int 1,.int ((10:Int)^(7:Int).toNat),.int 1])) uA (.tup [.ref pA,.ref wA,.int far]) pA=some (.lst []):=ai (ai (ai aa hwA) htA) huA;have hw0:upd (upd (upd (upd H pA (.lst [])) wA (.lst [])) tA (.tup [.int 1,.int ((10:Int)^(7:Int).toNat),.int 1])) uA (.tup [.ref pA,.ref wA,.int far]) wA=some (.lst []):=ai (ai aa htA) huA;have hwH:H wA=none:=(ag.upd hpA).free hwA
 let Iv1:Nat->St->Hp->Prop:=λi σ H2=>∃(qA:Addr) (ps:List Nat) (v4 v5:Option V),σ=[some (.ref a),some (.ref qA),some (.ref wA),some (.int far),v4,v5]/\ag H H2/\ps.Perm (List.range i)/\H2 qA=some (.lst (ps.map λ(j:Nat)=>V.int (j:Int)))/\H2 wA=some (.lst ((List.range i).map λj=>V.int (Ins.wag ns far j)))/\qA≠wA
 refine ce (lo:=0) (n:=ns.length) Iv1
  ⟨pA,[],none,none,rfl,s3,.refl _,hp0,hw0,epw⟩ ?_ ?_
 ·rintro i σ H2 hi ⟨qA,ps,v4,v5,rfl,sm,hperm,hq,hw,eqw⟩
  obtain ⟨c,ec⟩:∃c,ns[i]?=some c:=⟨_,List.getElem?_eq_getElem hi⟩;have ecV:(ns.map V.int)[i]?=some (.int c):=by rw[getElem?_map,ec];rfl
  have eD:ns.getD i 0=c:=by rw[getD_eq_getElem?_getD,ec];rfl
  rw[show (0:Int)+(i:Int)=(i:Int) from Int.zero_add _];have hpl:ps.length=i:=by rw[hperm.length_eq,length_range]
  refine {_,rfl,_,rfl,.inl {a,_,_,.int c,rfl,rfl,sm.seq hS,am ecV,?_}};refine {_,rfl,.inl {_,1,rfl,rfl,_,_,rfl,rfl,(),?_}};have a0:=emod_nonneg c (show (i:Int)+1≠0 by omega);have a1:=emod_lt_of_pos c (show (0:Int)<(i:Int)+1 by omega);obtain ⟨at_,hat⟩:∃n:Nat,c%((i:Int)+1)=(n:Int):=⟨(c%((i:Int)+1)).toNat,()⟩
  first | dsimp only | dsimp only[L2.cR.sq,L2.cR.lp]
  rw[hat];refine {_,rfl,_,rfl,_,rfl,qA,_,rfl,SqL.of hq,λb1 hb1=>?_};rw[nF,<- List.map_take];refine ⟨_,rfl,(by show 1<=sizeLine;decide),λb2 hb2=>?_⟩;refine .inr (.inl {b1,b2,_,_,rfl,rfl,ai aa hb2,aa,?_,λb3 hb3=>?_})
  ·simp only[length_map,length_take,length_cons,length_nil]
   exact Nat.le_of_lt (aw ())
  have t1:ag H2 (upd (upd (upd H2 b1 (.lst ((ps.take at_).map λ(j:Nat)=>V.int (j:Int)))) b2 (.lst [.int i])) b3 (.lst ((ps.take at_).map (λ(j:Nat)=>V.int (j:Int))++[.int i]))):=((ag.upd hb1).trans (ag.upd hb2)).trans (ag.upd hb3);refine {_,rfl,_,rfl,_,rfl,qA,_,rfl,SqL.of (t1 _ _ hq),λb4 hb4=>?_};rw[gO,<- map_drop];refine .inr (.inl {b3,b4,_,_,rfl,rfl,ai aa hb4,aa,?_,λb5 hb5=>?_})
  ·simp only[length_append,length_map,length_take,length_drop,length_cons,length_nil]
   exact Nat.le_of_lt (aw ())
  have t2:=(t1.trans (ag.upd (o:=.lst ((ps.drop at_).map λ(j:Nat)=>V.int (j:Int))) hb4)).trans (ag.upd (o:=.lst ((ps.take at_).map (λ(j:Nat)=>V.int (j:Int))++[.int i]++(ps.drop at_).map (λ(j:Nat)=>V.int (j:Int)))) hb5);have hw5:=t2 _ _ hw;have e5w:b5≠wA:=λz=>by
   rw[z] at hb5;have:=t1.trans (ag.upd (o:=.lst ((ps.drop at_).map λ(j:Nat)=>V.int (j:Int))) hb4) _ _ hw;rw[this] at hb5;cases hb5
  refine {_,rfl,.inl {rfl,_,SqL.of hw5},?_};refine {_,rfl,.inl {7,_,rfl,rfl,.inl ⟨by decide,by decide⟩,?_}};refine {_,rfl,_,rfl,.inl {a,_,_,.int c,rfl,rfl,(sm.trans t2).seq hS,am ecV,?_}};refine ⟨_,3,rfl,rfl,⟨by decide,by decide⟩,_,7,rfl,rfl,(by show (0:Int)<7;decide),.inl ⟨_,_,rfl,rfl,_,90,rfl,rfl,_,rfl,.inl ⟨_,far,rfl,rfl,.inr ⟨(),()⟩,?_⟩⟩⟩;refine {wA,_,_,rfl,rfl,hw5,?_,?_}
  ·rw[length_map,length_range]
   exact aw ()
  refine {b5,ps.take at_++[i]++ps.drop at_,_,_,rfl,ag.updN (sm.trans t2) hwH,Ins.vD hperm,?_,?_,e5w}
  ·rw[ae e5w,aa,map_append,map_append]
   rfl
  ·rw[aa,range_succ,map_append]
   show some (HO.lst (_++[V.int ((7*(i:Int)+c/3%7-90)*far)]))=some (HO.lst (_++[V.int (Ins.wag ns far i)]));unfold Ins.wag;rw[eD]
 ·rintro σ H2 ⟨qA,ps,v4,v5,rfl,sm,hperm,hq,hw,eqw⟩
  refine {_,rfl,qA,rfl,{_,SqL.of hq},λp hp=>?_}
  let Iv2:Nat->St->Hp->Prop:=λi σ H3=>(∃v,σ=[v,some (.ref wA)])/\ag H2 H3/\H3 p=some (.lst (((ps.take i).map (Ins.wag ns far)).map V.int))
  refine bf (K:=K) (a:=qA) (xs:=ps.map λ(j:Nat)=>V.int (j:Int)) Iv2
   ⟨⟨_,rfl⟩,ag.upd hp,aa⟩ (λi σ H3 _ h=>SqL.of (h.2.1 _ _ hq)) ?_ ?_
  ·rintro i x σ H3 hx ⟨⟨v,rfl⟩,s4,h4⟩
   obtain ⟨j,ej,rfl⟩:=aX hx;have hj:j<ns.length:=Ins.yw hperm (mem_of_getElem? ej);refine {_,rfl,_,rfl,.inl {wA,_,_,.int (Ins.wag ns far j),rfl,rfl,SqL.of (s4 _ _ hw),am ?_,_,h4,?_,{_,rfl},ag.updN s4 hp,?_}}
   ·rw[getElem?_map,getElem?_range hj]
    rfl
   ·rw[length_map,length_map,length_take]
    have:ps.length=ns.length:=by rw[hperm.length_eq,length_range]
    exact aw ()
   ·rw[aa,aJ ej,map_append,map_append]
    rfl
  ·rintro σ H3 ⟨_,s4,h4⟩
   rw[length_map,take_length] at h4;exact k p ps far H3 (sm.trans s4) (sm.free hp) h4 hf1 hf2 hperm
inductive nt(Z:Adr)(vs:List V)(H:Hp)(Q:VK)(u3:XK):Prop
 | mk (tA:Addr) (T:List Int):vs=[.ref tA]->H tA=some (.lst (T.map V.int))->T.Nodup->T.length<200->n0 Z H->(∀H',ag H H'->Q (.bl true) H')->nt Z vs H Q u3
def ir:ak ["_law_train", "_law_handed", "_law_found"] ["_law_train"] (ah fG):=by o_head AA
def je(T:Tx K mg Z):Ctr P w K mg base CX0 9 "_law_right" ["_law_train"] (nt Z):=by
 o_head (AB T.bO ir)
 obtain ⟨tA,tr,rfl,hT,hnd,hz,hTab,kQ⟩:=h
 o_head (AE ir (j (o 1 (xl (l 0 a))) (j (o 2 (r (gJ T) (l 1 a))) (j (q (C (x (w (s (u (l 2 (l (E T.cE) a))))) (x (xF (u (l 2 (l (E T.cF) a))) (u (l 2 (l (E T.cM) a)))) (G (xG 1 0))))) (k (n e)) d) (j (q (s (xi (l (z (l (u (l 2 (l (E T.cY) a))) (l (u (l 2 (l (E T.cZ) a))) (l (u (l 2 (l (E T.c0) a))) (l (u (l 2 (l (E T.cJ) a))) a))))) a))) (k (n e)) d) (j (q (C (x (s (u (l 2 (l (E T.c1) a)))) (G (w (s (r (qZ T) (l 0 (l 2 a)))))))) (k (n e)) d) (j (q (s (u (l 2 (l (E T.cF) a)))) (j (q (xN (L 2 (m_Shunted_shows T) (l 0 (l e (l c a)))) e) (k (n e)) d) (j (p (D (m 2) (l (A (l f (l c a))) a))) (k (n (xD (L 2 (m_Shunted_shows T) (l 0 (l e (l c a)))) e))))) d) (j (q (xN (L 2 (m_Odd_shows T) (l 0 a)) e) (k (n e)) d) (j (p (xS (m 2))) (k (n (xD (L 2 (m_Odd_shows T) (l 0 a)) e))))))))))))
 refine {_,rfl,tA,_,rfl,.inl (SqL.of hT),λhA hhA=>?_};have s1:=ag.upd (o:=.lst (tr.map V.int)) hhA;refine {_,rfl,hA,tr,rfl,aa,hnd,hz,hTab.same s1,λp a H2 s2 hp2 ha hok hnew=>?_};have s12:=s1.trans s2;have hT2:=s12 _ _ hT;have hA2:=s2 _ _ aa;have cls:∃C dx fs,H2 p=some (.ins C dx fs)/\fU K H2 (.ref p) (.ref C)/\kitOne K (.ref C) (.ref Z.aG)=some true/\kitOne K (.ref C) (.ref Z.aK)=some false/\kitOne K (.ref C) (.ref Z.aL)=some false/\kitOne K (.ref C) (.ref Z.aM)=some false /\
   kitOne K (.ref C) (.ref Z.aI)=some false/\kitOne K (.ref C) (.ref Z.aN)=some false/\∃b1 b2,kitOne K (.ref C) (.ref Z.aH)=some b1/\kitOne K (.ref C) (.ref Z.aJ)=some b2/\b2=!b1/\(b1=true->∃mA gs,a=.sh mA gs)/\(b1=false->∃pA sA ring shw,a=.od pA sA ring shw):=by
  cases a with
  | sh mA gs=>
   obtain ⟨⟨dx,fs,h1,h2,h3,h4⟩,hgl,hgok⟩:=ha;exact {_,dx,fs,h1,T.cH.ty T.cG h1,T.eM,T.eP,T.eQ,T.eR,T.eN,T.eS,true,false,aW,T.eO,rfl,λ_=>⟨mA,gs,rfl⟩,λz=>by cases z}
  | od pA sA ring shw=>
   obtain ⟨dx,h1,_⟩:=ha;exact {_,dx,_,h1,T.cO.ty T.cN h1,T.eT,T.eW,T.eX,T.eY,T.eV,T.eZ,false,true,T.eU,aW,rfl,λz=>(by cases z),λ_=>⟨pA,sA,ring,shw,rfl⟩}
 obtain ⟨C,dx,fs,hC,ty2,kA,kF,kW,kG,kO,kT,b1,b2,kS,kH,eb,hsh,hod⟩:=cls;have ty:∀{H3:Hp},ag H2 H3->fU K H3 (.ref p) (.ref C):=λ{H3} s=>by
  cases a with
  | sh mA gs=>
   obtain ⟨⟨_,_,h1,_⟩,_⟩:=ha;rw[hC] at h1;cases h1;exact T.cH.ty T.cG (s _ _ hC)
  | od pA sA ring shw=>
   obtain ⟨_,h1,_⟩:=ha;rw[hC] at h1;cases h1;exact T.cO.ty T.cN (s _ _ hC)
 have r2:=ag.refl H2;refine {_,rfl,_,_,_,_,_,rfl,rfl,bp,ty r2,kA,_,rfl,aY ?_};refine {_,rfl,_,_,_,_,_,rfl,rfl,bp,ty r2,kS,_,rfl,_,_,_,_,_,rfl,rfl,bp,ty r2,kH,.inl {rfl,_,rfl,?_}};rw[decide_eq_false (show ¬ V.bl b1=V.bl b2 from λz=>by rw[eb] at z;injection z with z;cases b1<;>cases z)];refine aY {_,rfl,_,rfl,.inr {dI tr,dI tr,.ints (SqL.of hA2),.ints (SqL.of hT2),bq _ _,bq _ _,_,rfl,fX rfl ?_}};refine {_,rfl,_,_,_,_,_,rfl,rfl,bp,ty r2,kF,_,rfl,_,_,_,_,_,rfl,rfl,bp,ty r2,kW,_,rfl,_,_,_,_,_,rfl,rfl,bp,ty r2,kG,_,rfl,_,_,_,_,_,rfl,rfl,bp,ty r2,kO,?_};refine ⟨(by show 4<=sizeLine;decide),λl hl=>⟨l,[false,false,false,false],rfl,SqL.of aa,_,rfl,aY ?_⟩⟩
 have s3:=ag.upd (o:=.lst [.bl false,.bl false,.bl false,.bl false]) hl;generalize upd H2 l (.lst [.bl false,.bl false,.bl false,.bl false])=H3 at s3 ⊢;refine {_,rfl,_,_,_,_,_,rfl,rfl,bp,ty s3,kT,_,rfl,aY ?_};have s13:=s12.trans s3;refine {_,rfl,_,rfl,tA,p,tr,a,rfl,s13 _ _ hT,hnd,hz,ha.same s3,hok,λH4 s4=>{_,rfl,aY ?_}};have s14:=s13.trans s4;have ha4:=(ha.same s3).same s4;have ty4:=ty (s3.trans s4);refine {_,rfl,_,_,_,_,_,rfl,rfl,bp,ty4,kS,_,rfl,?_};have hpn:H p=none:=s1.free hp2;cases b1 with
 | true=>
  refine dw ?_;obtain ⟨mA,gs,rfl⟩:=hsh rfl;have hok':bu tr true 2 gs=true:=hok;obtain ⟨g4,hgl,hgok⟩:=ha4;obtain ⟨dx',fs',h1,h2,h3,h4⟩:=id g4;have hmn:H mA=none:=s1.free hnew;refine {_,rfl,p,dx',fs',rfl,h1,h3,_,rfl,p,mA,tA,gs,true,2,tr,rfl,g4,hgok,(),s14 _ _ hT,hnd,hz,λH5 s5=>?_};rw[hok'];refine {_,rfl,_,rfl,fX rfl ?_};have s15:=s14.trans s5;obtain ⟨dx5,fs5,f1,f2,f3,rs,hm,hpr⟩:=g4.same s5;refine ⟨_,rfl,p,_,dx5,_,_,rfl,f1,T.cG,T.cI,f2,.inl {rfl,_,SqL.of hm},(by show 2<=sizeLine;decide),λt ht=>⟨mA,_,_,rfl,rfl,ai hm ht,?_,?_⟩⟩
  ·rw[length_map,Paired.length hpr]
   exact aw ()
  have npm:p≠mA:=aN f1 hm (by intro z;cases z);have s17:ag H (upd (upd H5 t (.tup [.str (Str.ofString "out"),.int 1])) mA (.lst (rs.map V.ref++[.ref t]))):=ag.updN (s15.trans (ag.upd ht)) hmn;have ntm:t≠mA:=(af hm ht).symm;have g7:uj Z.aH (upd (upd H5 t (.tup [.str (Str.ofString "out"),.int 1])) mA (.lst (rs.map V.ref++[.ref t]))) p mA (gs++[(Str.ofString "out",((1:Nat):Int))]):=by
   refine ⟨dx5,fs5,by rw[ae npm];exact ai f1 ht,f2,f3,rs++[t],by rw[aa,map_append];rfl,Paired.snoc' (Paired.imp (λr g z=>?_) hpr) ?_⟩
   ·have z6:H5 r=some (.tup [.str g.1,.int g.2]):=z
    show upd _ mA _ r=_;rw[ae (aN z6 hm (by intro w;cases w))];exact ai z6 ht
   ·show upd _ mA _ t=_
    rw[ae ntm,aa];rfl
  obtain ⟨dx7,fs7,q1,q2,q3,q4⟩:=id g7;refine ⟨_,rfl,p,dx7,fs7,rfl,q1,q3,_,rfl,p,mA,tA,_,true,2,tr,rfl,g7,hgok.snoc (by decide),by rw[length_append];simp only[length_cons,length_nil];omega,s17 _ _ hT,hnd,hz,λH8 s8=>?_⟩;have hfin:bu tr true 2 (gs++[(Str.ofString "out",((1:Nat):Int))])=false:=ui hok' (by decide);rw[hfin];exact {_,rfl,jn rfl (kQ H8 (s17.trans s8))}
 | false=>
  refine aY ?_;obtain ⟨pA,sA,ring,shw,rfl⟩:=hod rfl;have hok':ii tr ring shw:=hok;obtain ⟨dx4,h1,h2,h3,h4⟩:=ha4;obtain ⟨fp,fsn⟩:=hnew;have hsn:H sA=none:=s1.free fsn;have hsh':=hok'.short;refine {_,rfl,p,dx4,_,rfl,h1,rfl,_,rfl,p,pA,sA,tA,ring,shw,tr,rfl,⟨dx4,h1,h2,h3,h4⟩,s14 _ _ hT,hz,(),hok'.three,hok'.odd,.inl {hok',λH5 s5=>?_}};refine {_,rfl,_,rfl,fX rfl ?_};have s15:=s14.trans s5;have h35:=s5 _ _ h3;have hl3:=hok'.len;have h3l:=hok'.three;obtain ⟨sw,x,exs⟩:∃sw x,shw=sw++[x]:=by
   rcases List.eq_nil_or_concat shw with z | ⟨sw,x,z⟩
   ·rw[z] at hl3;simp at hl3;omega
   ·exact ⟨sw,x,by rw[z,List.concat_eq_append]⟩
  refine {_,rfl,p,_,dx4,_,_,rfl,s5 _ _ h1,T.cN,T.cS,e9 _ _,.inl {rfl,_,SqL.of h35},.inl {sA,_,.int (x:Int),rfl,rfl,h35,?_,?_}}
  ·rw[exs,<- ba];simp
  rw[exs,<- ba,dropLast_concat];have nps:p≠sA:=aN h1 h3 (by intro z;cases z);have s16:ag H (upd H5 sA (.lst (au sw))):=ag.updN s15 hsn;have f1:upd H5 sA (.lst (au sw)) p=some (.ins Z.aJ dx4 (odf pA sA)):=by rw[ae nps];exact s5 _ _ h1
  refine ⟨_,rfl,p,dx4,_,rfl,f1,rfl,_,rfl,p,pA,sA,tA,ring,sw,tr,rfl,⟨dx4,f1,by rw[ae h4];exact s5 _ _ h2,aa,h4⟩,s16 _ _ hT,hz,(),hok'.three,hok'.odd,.inr {?_,λH8 s8=>?_}⟩
  ·rw[exs,length_append] at hl3
   simp only[length_cons,length_nil] at hl3;omega
  ·exact {_,rfl,jn rfl (kQ H8 (s16.trans s8))}
def zq{T:List Int}{ring shw:List Nat}(h:ii T ring shw){ms:List Yd.Mv}(B:Yd.bt T true 2 ms):False:=
 B.no_odd (ps:=λk=>ring.getD k 0) (sh:=λk=>shw.getD k 0) h.odd (by have:=h.three;omega) h.at_
def wP:ak ["_law_script", "_law_made_here", "_law_trains", "_law_many", "_law_ringed_here"] ["_law_script"] (ah iT):=by o_head AA
def Bv {f:Addr} {fd:FuncData} (T:Tx K mg Z) (F:Fun K "law" "law" iT f fd):b9 P w K mg base CX0 11 f fd ["_law_script"] (jv K):=by
 refine F.ok wP (λvs H Q E h=>?_) (λcdv A outer s H vs Q E hr h=>?_)
 ·obtain ⟨a,ns,rfl,_⟩:=h
  rfl
 ·obtain ⟨a,ns,rfl,hS,hz,hL,kQ⟩:=h
  have hTab:=n0.of T hL
  o_head (AE wP (j (o 1 (r (pQ T) (l 0 (l e (l c a))))) (j (o 2 (z (l (r (ke T) (l 0 a)) (l 1 (l (r (lW T) (l 1 (l 0 a))) (l 1 a)))))) (j (q (C (x (w (s (xh (l (V iT ["_law_script", "_law_made_here", "_law_trains", "_law_many", "_law_ringed_here"] [none] ["_law_train"] (I 2) (W 0 ["_law_train"]) (r (je T) (l 0 a))) a)))) (G (w (s (u (l (r (gJ T) (l 1 a)) (l (E T.cF) a)))))))) (k (n e)) d) (j (o 3 (R c (t (l 0 a)))) (j (o 4 (r (mj T) (l 3 a))) (k (n (P (r (je T) (l 4 a)) (Q (xx (u (l (r (gJ T) (l 4 a)) (l (E T.cM) a))) (xx (xu 3 c) c))))))))))))
  refine ⟨_,rfl,a,ns,true,2,rfl,rfl,hS,(),by decide,by decide,λmA Tm ms H1 s1 f1 h1 hTp hB=>?_⟩;have hml:Tm.length=ns.length:=by rw[hTp.length_eq,Yd.lu]
  have hmn:Tm.Nodup:=hTp.nodup_iff.mpr (Yd.km _);refine {_,rfl,a,ns,rfl,s1.seq hS,(),λiA ps far H2 s2 f2 h2 hf1 hf2 hperm=>?_};have hil:(ps.map (Ins.wag ns far)).length=ns.length:=by rw[length_map,hperm.length_eq,length_range]
  have hin:(ps.map (Ins.wag ns far)).Nodup:=Ins.oQ ns hf1 hperm;refine {_,rfl,_,rfl,_,rfl,mA,a,Tm,ns,rfl,s2 _ _ h1,(s1.trans s2).seq hS,(),λpA Tp H3 s3 f3 h3 hpp=>?_};have hpl:Tp.length=ns.length:=by rw[hpp.length_eq,hml]
  have hpn:Tp.Nodup:=hpp.nodup_iff.mpr hmn;refine ⟨_,rfl,(by show 4<=sizeLine;decide),λtA htA=>?_⟩;have s4:=ag.upd (o:=.lst [.ref iA,.ref mA,.ref pA,.ref mA]) htA;have X4:∀x∈[V.ref iA,V.ref mA,V.ref pA,V.ref mA],∃(tA':Addr) (U:List Int),x=.ref tA'/\upd H3 tA (.lst [.ref iA,.ref mA,.ref pA,.ref mA]) tA'=some (.lst (U.map V.int))/\U.Nodup/\U.length<200:=λx hx=>by
   simp only[mem_cons,not_mem_nil,or_false] at hx;rcases hx with rfl | rfl | rfl | rfl
   ·exact {iA,_,rfl,(s3.trans s4) _ _ h2,hin,()}
   ·exact {mA,Tm,rfl,((s2.trans s3).trans s4) _ _ h1,hmn,()}
   ·exact {pA,Tp,rfl,s4 _ _ h3,hpn,()}
   ·exact {mA,Tm,rfl,((s2.trans s3).trans s4) _ _ h1,hmn,()}
  have ht4:upd H3 tA (.lst [.ref iA,.ref mA,.ref pA,.ref mA]) tA=some (.lst [.ref iA,.ref mA,.ref pA,.ref mA]):=aa;have h14:=((s2.trans s3).trans s4) _ _ h1;have sT:=((s1.trans s2).trans s3).trans s4;have hTab4:=hTab.same sT;have hS4:=sT.seq hS;generalize upd H3 tA (.lst [.ref iA,.ref mA,.ref pA,.ref mA])=H4 at X4 ht4 h14 hTab4 hS4 ⊢;refine {_,rfl,tA,rfl,{_,SqL.of ht4},λq hq=>?_}
  let Iv1:Nat->St->Hp->Prop:=λi σ H5=>(∃v,σ=[v])/\ag H4 H5/\H5 q=some (.lst ((List.replicate i true).map V.bl))/\i<=4
  refine bf (K:=K) (a:=tA) (xs:=[.ref iA,.ref mA,.ref pA,.ref mA]) Iv1
   ⟨⟨_,rfl⟩,ag.upd hq,aa,zero_le _⟩ (λi σ H5 _ h=>SqL.of (h.2.1 _ _ ht4)) ?_ ?_
  ·rintro i x σ H5 hx ⟨⟨v,rfl⟩,s5,h5,hi⟩
   have hi4:i<4:=(List.getElem?_eq_some_iff.mp hx).1;obtain ⟨uA,U,rfl,hU,hUn,hUz⟩:=X4 x (mem_of_getElem? hx);refine {_,rfl,uA,U,rfl,s5 _ _ hU,hUn,hUz,hTab4.same s5,λH6 s6=>?_};refine {_,s6 _ _ h5,?_,{_,rfl},ag.updN (s5.trans s6) hq,?_,hi4}
   ·rw[length_map,length_replicate]
    exact al ()
   ·rw[aa,replicate_succ',map_append]
    rfl
  rintro σ H5 ⟨_,s5,h5,_⟩;refine {q,_,rfl,SqL.of h5,?_};rw[show (List.replicate [V.ref iA,V.ref mA,V.ref pA,V.ref mA].length true).all _root_.id=true from rfl];refine {_,rfl,aY ?_};refine {_,rfl,mA,Tm,rfl,s5 _ _ h14,hmn,(),hTab4.same s5,λp an H7 s7 hp7 ha hok hnew=>?_};cases an with
  | od pA' sA' ring shw=>exact (zq hok hB).elim
  | sh qA gs=>
   obtain ⟨⟨dx,fs,g1,_⟩,_⟩:=ha;refine {_,_,_,_,_,rfl,rfl,bp,T.cH.ty T.cG g1,aW,_,rfl,aY ?_};have s57:=s5.trans s7;refine {_,rfl,_,_,rfl,.inl {_,s57.seq hS4,rfl},.inl {_,_,rfl,rfl,?_}};have em:(3:Int)+((ns.map V.int).length:Int)=((3+ns.length:Nat):Int):=by rw[length_map];omega
   first | dsimp only | dsimp only[L2.cR.sq,L2.cR.lp]
   rw[em];generalize hmm:3+ns.length=m;have hm3:3<=m:=()
   refine {_,rfl,m,rfl,hm3,(),λrA H8 s8 f8 h8=>?_};have rl:(Yd.cb m).length<200:=by rw[Yd.ju];omega
   have rn:=Yd.pE hm3;have tab8:=hTab4.same (s57.trans s8);refine {_,rfl,rA,Yd.cb m,rfl,h8,rn,rl,tab8,λH9 s9=>?_};refine {_,rfl,dw ?_};refine {_,rfl,rA,Yd.cb m,rfl,s9 _ _ h8,rn,rl,tab8.same s9,λp2 an H10 s10 hp10 ha hok2 hnew2=>?_};cases an with
   | sh qA gs=>
    obtain ⟨⟨dx,fs,g1,_⟩,_⟩:=ha;have hok3:bu (Yd.cb m) true 2 gs=true:=hok2;obtain ⟨ms2,B2⟩:=nN hok3;have hev:m%2≠1:=λz=>Yd.wt hm3 z B2;refine {_,_,_,_,_,rfl,rfl,bp,T.cH.ty T.cG g1,T.eO,?_};refine ⟨_,rfl,_,2,rfl,rfl,(by show (0:Int)<2;decide),.inl ⟨rfl,.inl ⟨rfl,?_⟩⟩⟩;rw[decide_eq_false (show ¬ (V.int ((m:Int)%2)=V.int 1) from λz=>by have:=V.int.inj z;omega)];exact jn rfl (kQ _)
   | od pA' sA' ring shw=>
    obtain ⟨dx,g1,_⟩:=ha;have hok3:ii (Yd.cb m) ring shw:=hok2;have hev:m%2=1:=by
     rcases Nat.mod_two_eq_zero_or_one m with z | z
     ·exact (Yd.uB (ps:=λk=>ring.getD k 0) (sh:=λk=>shw.getD k 0) hm3 z hok3.odd (by have:=hok3.three;omega) hok3.at_).elim
     ·exact z
    refine {_,_,_,_,_,rfl,rfl,bp,T.cO.ty T.cN g1,aW,?_};refine ⟨_,rfl,_,2,rfl,rfl,(by show (0:Int)<2;decide),.inl ⟨rfl,.inl ⟨rfl,?_⟩⟩⟩;rw[decide_eq_true (show V.int ((m:Int)%2)=V.int 1 from by rw[show (m:Int)%2=1 by omega])];exact jn rfl (kQ _)
def zr:zc cc:=by
 intro f fd T F;have h:=@Bv f fd;unfold My.P My.w My.K My.mg My.base My.Z at h;exact h T F
def Bw:OkL PySem.Challenge.rw_sidings_k03_whole_two_blind:=λ{w K mg base Z _ _} T F=>(Classical.byContradiction λn=>Classical.epsilon_spec (p:=λc=>¬ zc c) ⟨⟨w,K,mg,base,Z⟩,n⟩ zr:zc ⟨w,K,mg,base,Z⟩) _ _ T F
end My
theorem PySem.Challenge.cw_sidings_k03_whole_two_blind_holds : PySem.Challenge.rw_sidings_k03_whole_two_blind.Holds :=
 My.early My.Bw
#print axioms PySem.Challenge.cw_sidings_k03_whole_two_blind_holds
