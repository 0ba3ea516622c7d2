import PyProof.Rows.All
import Wide.All
import OpenK.AllK
import Wide.FinOn
import Lean
import PyProof.EqAt
import PyProof.EqKinds
import PyProof.TupleCall
import KE.KNestM
import PyProof.StationsW
import PyProof.ExcInit
import PyProof.ExcClass2
import PyProof.NsDelKeeps
import PyProof.RulesAs
import PyProof.ListRange
import PyProof.Rows.SortShell
import KE.KSortKey
import KE.KLam
import KE.KRevIter
import PyProof.Rows.Range3
import PyProof.Rows.CallKwBuiltin
import PyProof.WalkInts
import PyProof.Rows.SortRuns
import PyProof.Rows.SetFrom
import PySem.Challenge.RW_sidings_k08_answers_by_hand
open List renaming getElem?_eq_getElem->li,length_map->lj,getD_eq_getElem?_getD->oa,getElem?_eq_some_iff->op,replicate->ra,getElem?_map->r6,length_append->sB,length_cons->vl,mem_cons_self->vr,map_append->v0,mem_cons_of_mem->wh,mem_of_getElem?->xA,mem_append_right->xC,size_toArray->y9,length_replicate->zg,range->IZ,mem_cons->Jb,mem_append->Jc,mem_singleton->Jj,getElem?_eq_none_iff->Jk,getElem?_set_self->Jm,length_take->Jn,length_nil->Jo,append_assoc->Ju,length_range->Jv,mem_append_left->JD,pairwise_append->JE,pairwise_cons->JJ,length_drop->JM,getElem?_set_ne->JN,take_of_length_le->JS,getElem?_replicate->JV,replicate_succ->JW,getElem?_append_right->J8,mem_range->J9,append_nil->Kb,length_set->Kd,getLast?_eq_getElem?->Ke,getLast?_eq_some_getLast->Kh,dropLast_concat_getLast->Kk,length->Km,length_reverse->Kt,getElem_of_mem->Ku,idxOf_lt_length_iff->KG,map_cons->KH,getElem?_append_left->KI,take_length->KL,length_eq_zero_iff->KO,ext_getElem?->KQ,length_singleton->KS,map->KY,nodup_iff_pairwise_ne->KZ,take_append_drop->K1,getElem?_zip_eq_some->K2,drop_eq_getElem_cons->K3,mem_of_mem_take->K8,lookup->La,all_eq_true->Le,not_mem_nil->Lf,drop_of_length_le->Lg,mem_map->Li,getElem?_take_of_lt->Lk,reverse_append->Ln,nodup_cons->Ls,reverse_cons->Lu,mem_of_mem_drop->Lz,getElem?_range->LI,replicate_succ'->LJ,dropLast_concat->LK,flatten_cons->LN,pairwise_iff_getElem->LU,extract_eq_take_drop->LV,map_congr_left->LW,length_pos_iff->LY,length_dropLast->L8,mem_iff_getElem->L9,map_set->Ma,getLast?_append->Mc,getElem?_append->Md,length_zip->Mi,getElem?_drop->Ml,getElem_mem->Mo,getElem?_cons_succ->Mr,filterMap_cons->Mt,take_add_one->MC,getElem?_set->MF,map_dropLast->MI,pairwise_map->MJ,eraseIdxIfInBounds_toArray->MQ,perm_append_comm->MS,eq_nil_or_concat->MT,mem_nil_iff->MW,getElem_inj->MX,lookup_cons->M0,mem_reverse->M8,filter_cons->Na,map_replicate->Nd,take_append_of_le_length->Ni,reverse_reverse->Nj,any_cons->NB,nil_append->NC,range_succ->NG,filter_append->NH,getElem_idxOf->NJ,find?_cons->NK,getLast?_map->NT,eraseIdx_cons_succ->N7,nodup_range->Oa,getLast?_cons_cons->Oe,zipIdx_cons->Og,getElem?_cons_zero->Oh,map_reverse->Oo,range_succ_eq_map->Oz,pairwise_lt_range->OB,not_of_lt_findIdx->OD,mem_filter->OG,of_mem_zip->OH,foldl_cons->OI,getElem?_toArray->ON,length_filter_le->OP,dropLast_eq_take->OQ,concat_eq_append->OR,idxOf_eq_length->O4,count_le_length->O6,map_drop->O7,forIn_nil->Pd,take_succ_cons->Pj,all_cons->Pr,sum_cons->Pu,map_take->Py,mem_filterMap->PN,forIn_cons->PU,contains_cons->PY,set_cons_zero->P0,set_cons_succ->P1,map_nil->P9,drop_zero->Qt,foldl->QH
open PySem renaming wpAny_bind->mi,Addr->mu,Value->n5,Shared->pe,wpAny_pure->ri,Str->xD,Program->IY,mainGlobals->I0,World->Je,wpAny_mono->Jg,Around->Jq,bootBuiltins->Js,Stmt->Jt,Heap->Jz,Expr->JF,wpAny_Call_Name_kw->JL,wpAny_truthy_bool->JQ,Scope->JT,sizeLine_eq->JU,compareOp->JX,wpAny_field->JY,NameKind->Kc,wpAny_holding->Ki,wpAny_standAt->Ko,wpAny_newObj_type->Kq,wpAny_loadPart_at->Ks,wpAny_seqItems->Kv,sliceBounds->Kx,Obj->Ky,FuncData->Kz,codeAny_mono->KC,cellsFrom->KN,binaryOp->KP,excClassObj->KR,wpAny_rule->KU,codeAny->K0,importedModules->K5,wpAny_passesOwn->K6,wpAny_pyIter_list->K9,keywordEach->Lb,wpAny_comprehension_free->Ll,wpAny_letGo->Lp,sysModules->Lq,wpAny_call->Lr,wpAny_setField_rec->Lv,wpAny_execs_nil->Lw,attributeBase->LA,foldedSetIterable->LB,codeAny_call_builtin->LG,treeTable->LL,Pos->LM,plainId_quiet->L6,codeAny_builtin->Mb,wpAny_updateSeq->Me,assignEach->Mh,swapsWith->Mm,GenState->Ms,bindName->Mu,wpAny_bindName->Mw,backToKw->Mx,newFunctionEnv->Mz,codeAny_compStart_list->MA,wpAny_setField->MD,wpAny_tryCatch->MM,wpAny_nextOf_list_item->MN,plainObj_wpAny_Assign_Attribute->MP,builtinsNs->MU,noteFrame->M4,wpAny_pyIter_zip->M5,pushCells->M9,Builtin->Nb,wpAny_newFunctionEnv->Ng,letOwnedTupleGo->Nk,pushCells_keeps->Nl,wpAny_isSubtype_exc->Nm,callWith->Nz,typeLookup->NA,IsZip->NE,tupleKind_room_in1->NL,wpAny_letOwnedTupleGo_zip->NN,codeAny_call_builtin_code->NO,wpAny_check_type_call_sub->NP,cLine->NQ,slot_list_getitem->NS,argBest->NV,wpAny_getItem_list_slice->NX,wpAny_newList->N0,wpAny_attempt->N1,wpAny_onRaise->N4,Env->N5,wpAny_execs_cons->N6,setFlight->N8,codeAny_call_builtin_at->N9,wpAny_call_entry->Oj,wpAny_callSpecial?_slot->Ol,OsState->Op,pyNext->Ou,call_meets->Ox,ExcBaseFacts->Oy,wpAny_specialOf->OM,recursionLimit->OS,IsRangeIter->OV,wpAny_loadPart->OW,subscripted->OY,wpAny_newTuple->O0,tupleKind->Pa,callerA->Pb,Arguments->Pc,valueAt->Pf,swapsWithSole->Pn,swappedStores->Po,rangeSize_one->Pp,evalPart_none->Pq,eval_ListComp->Ps,denote->Pz,Params->PB,Result->PJ,pyIter->PM,PlainAttrs->PQ,isInstance->PV,BindsTo->P5,bindArgs->P6,Model->Qb,Operator->Qc,getItem->Qg,OwnTail->Qi,seqIndex?->Qq,slicePick->Qs,raiseStmt->Qu,updateSeq->Qx,atKey->Qz,bindL->QF,bindC->QG,Sem->QJ
open Nat renaming le_refl->oN,lt_of_lt_of_le->ti,ne_of_lt->vu,le_trans->xM,zero_le->Jd,le_of_lt->Jh,lt_succ_self->JG,ne_of_gt->Kg,lt_irrefl->Kw,le_succ->Lc,succ_le_succ->Ld,lt_succ_of_lt->Lm,lt_of_succ_lt->LC,le_succ_of_le->LD,lt_or_ge->LH,min_eq_right->LO,zero_add->LQ,min_eq_left->Mp,lt_trichotomy->MH,le_of_succ_le->MO,mod_eq_of_lt->M6,lt_of_le_of_lt->ND,min_self->NI,sub_self->Ob,max_eq_right->Oc,le_of_eq->Ot,mod_self->OA,max_eq_left->OJ,not_lt_zero->OL,not_lt->PZ,add_comm->Qh,add_zero->Qk,lt_trans->Qm
open PySem.Heap renaming get?_push_of_some->pu,lt_size->xE,get?_push_size->y8,size_push->Jl,get?_update_other->Jp,get?_none_of_le->Jy,get?_update_self->KA,SameBut->Np,MadeExcOf->NF,size_update->Oi,get?_update_ne->Ph,IsList->QA
open PySem.Str renaming ofString->rd
open Bool renaming false_ne_true->t7,false_eq_true->xN,and_eq_true->Jf,false_and->Jw,true_and->JA,eq_iff_iff->JO,not_true->L5,eq_false_iff->MB,and_eq_true_iff->OU,false_or->Pw,or_false->Px,true_or->Qn
open Option.some renaming inj->vb,injEq->Ql
open PySem.Value renaming ref->Ja,none->Kp,int->Nt,type->Nu,str->O9,bool->PH,float->Qy
open Int renaming toNat_natCast->Ji,le_refl->JZ,emod_lt_of_pos->KJ,emod_nonneg->Lh,zero_add->LP,le_trans->LS,toNat_of_nonneg->No,le_of_lt->OC,toNat->Qw
open Unit renaming unit->Jr
open PyProof.Rows renaming callWith_type1->Jx,mirror->Pk
open False renaming elim->JB
open PySem.Obj renaming mapSeq->JC,mapFields->NY
open Array renaming length_toList->JH,toList_append->JK,getElem?_setIfInBounds_ne->Ka,getElem?_eq_some_iff->Kr,getElem?_toList->K7,getElem?_setIfInBounds_self_of_lt->LF,toList_extract->Nh,size_extract->Nr,find?_toList->Nx,perm_iff_toList_perm->NM,toList_push->NU,append_singleton->OF,reverse_reverse->OO,reverse_append->O5,toList_modify->Pl
open List.Nodup renaming length_le_of_subset->JI
open Ne renaming symm->JP
open PySem.NameKind renaming free->JR,cell->KD
open Option renaming map_eq_some_iff->Kf,isSome_iff_exists->LZ,bind_eq_some_iff->Mq,isSome_some->P2,map_some->P4,isSome_map->Qo,getD_none->Qr
open PySem.Builtin.SmallTypes renaming ownedTupleIsFree->Kj,nextOf->K4,ownedTupleHandOut->LX
open PySem.Builtin.Range renaming rangeSize->Kl,small->Nn
open PySem.Builtin.List renaming listExtendWith->Kn,listTooLong->L0,listSameRef->N3,listItems->OE
open True renaming intro->KW
open PySem.Around renaming under_plainId->Lj,frames_deeper->OX,under->Qe
open PySem.Heap.SameBut renaming update->Lo
open ForInStep renaming yield->Lx
open Array.Perm renaming refl->Ly
open Sum renaming inl->L7,inr->O8
open PySem.W renaming keepIn->Mf,emptyDict->Mn,nsIn->MV,callWith_K->MZ,kia_one->Nc,methodCall_KW->NW,instObj->Oq,codeIn->OT,kla_obj->Pe,kitOne->PL,tabIn->Qa,fnOf->QC
open PySem.Code renaming quiet_builtin->Mj,isFrame->Qf
open List.Perm renaming append_right->MG,append_left->MR,trans->QD
open List.Pairwise renaming imp->MK
open PySem.Data renaming cell->MY,fields->Nf
open PySem.Builtin.Builtins renaming bindParams->Nq
open PySem.Calls renaming Constant_str->Nv,Name_function_global->Nw,spliced_cons->Ny,spliced_nil->NR,callWith_builtin->Ow
open PySem.PyData renaming weight->NZ,weightAll->Of,depthAll->OK,canLayAll0->Qj
open PySem.Heap.IsList renaming push->Om
open PyProof renaming noPylong_small->Ov
open Or renaming inl->OZ,inr->QI
open PySem.EntryCells renaming newEntry->Pg
open Prod.mk renaming injEq->Pm
open PySem.SeqAt.EqAt renaming int_str->PD,str_int->PF
open PySem.Heap.IsSliceOf renaming new->PP
open PySem.Heap.Ns1 renaming of_empty->Qd
open PySem.Flow renaming next->Qp
open PySem.Shared renaming heap->QB
open Prod renaming ext->QE
open List (set_comm map_map all_map)
open Nat (mod_lt)
open PySem.W (plainGet isFn mg_of lookIn kqdP kqdOk envX)
set_option Elab.async false
set_option linter.all false
set_option maxRecDepth 100000
set_option maxHeartbeats 4000000
local macro_rules | `(()) => `((by omega))
local macro_rules (kind := «term{_}») | `({$xs,*}) => `(⟨$xs,*⟩)
local macro_rules | `(tactic| omega) => `(tactic| first | assumption | lia)
open Lean in
def fX:Nat->Syntax->MacroM Syntax
 | 0,_=>Macro.throwUnsupported
 | n+1,s=>match s with
  | `(($a,$b,*))=>do
   let q<-(#[a]++b.getElems).mapM λx=>do let y<-fX n x;`(Parser.Tactic.rcasesPatLo|$(⟨y⟩):rcasesPatMed)
   let z<-`(rcasesPat|⟨$q,*⟩)
   `(Parser.Tactic.rcasesPatMed|$z:rcasesPat)
  | `($a||$b)=>do
   let l<-fX n a
   let r<-fX n b
   match (⟨l⟩:TSyntax ``Parser.Tactic.rcasesPatMed),(⟨r⟩:TSyntax ``Parser.Tactic.rcasesPatMed) with
   | `(Parser.Tactic.rcasesPatMed|$x|*),`(Parser.Tactic.rcasesPatMed|$y|*)=>
    let z:=x.getElems++y.getElems
    `(Parser.Tactic.rcasesPatMed|$z|*)
   | _,_=>Macro.throwUnsupported
  | `(($a))=>do
   let y<-fX n a
   let y<-`(Parser.Tactic.rcasesPatLo|$(⟨y⟩):rcasesPatMed)
   let y<-`(rcasesPat|($y))
   `(Parser.Tactic.rcasesPatMed|$y:rcasesPat)
  | `($i:ident)=>`(Parser.Tactic.rcasesPatMed|$i:ident)
  | `(_)=>`(Parser.Tactic.rcasesPatMed|_)
  | `(9)=>let r:=mkIdent `rfl;`(Parser.Tactic.rcasesPatMed|$r:ident)
  | _=>Macro.throwUnsupported
open Lean in
local macro_rules | `(tactic| let $p:term := $t) => do let q:=⟨<-fX 99 p⟩;`(tactic| obtain $q:rcasesPatMed := $t)
open Lean in
local macro_rules | `(tactic| let $p:term : $T := $t) => do let q:=⟨<-fX 99 p⟩;`(tactic| obtain $q:rcasesPatMed : $T := $t)
local macro_rules | `(tactic| show $t) => `(tactic| refine $t)
open Lean in
local macro_rules | `(↑$x:ident) => `($(mkIdentFrom x (x.getId ++ `heap.objs.size)))
local macro_rules (kind := «term!_») | `(!$x) => `(some $x)
local macro_rules
 | `(9) => `(rfl)
 | `(8) => `(none)
 | `(6) => `(true)
 | `(5) => `(false)
 | `(7) => `(List)
 | `(4) => `(Nat)
 | `(3) => `(Int)
namespace L2
open PySem PySem.W
def lG(st:SharedT->Thread->Option (SharedT×Thread))(a:4)(ann:Option n5):4->SharedT->Thread->Option SharedT
 | 0,_,_=>8
 | n+1,s,t=>match through t with
  | true=>!s
  | false=>match stepOk a ann t with
   | false=>8
   | true=>match st s t with
    | some (s',t')=>lG st a ann n s' t'
    | none=>8
def qv{b:String->Option Nb}{p:IY}{w:Je}{a:4}{ann:Option n5}:∀(n:4) (s r:SharedT) (t:Thread),lG (stepT (Pz b) p w) a ann n s t=!r->topRun b p w a ann n s.abs t=!r.abs
 | 0,_,_,_,h=>by cases h
 | n+1,s,r,t,h=>by
  unfold lG at h;unfold topRun;cases d:through t with
  | true=>rw[d]at h;cases h;rfl
  | false=>
   rw[d]at h;cases c:stepOk a ann t with
   | false=>rw[c]at h;cases h
   | true=>
    rw[c]at h;cases hs:stepT (Pz b) p w s t with
    | none=>rw[hs]at h;cases h
    | some x=>
     let(s',t'):=x;rw[hs]at h;rw[stepT_spec hs];show qv n s' r t' h
def yl{p q:IY}{loose:7 xD}{Xt:pe->Bool}{j:Type}{Yf:pe->j}{Ya:Je->j}{N:4}{i:Bool}{H₀:PB->Jz}{T₀:PB->BT}{life:Life}{d₀:Drawn}{k₀ m₀:4}{ann:Option n5}
  (a:∀w:Je,(fencedOpening LL p w N).map (λs=>(s.heap,s.gens,s.drawn,s.toks))=!(H₀ w.params,Array.mk [],d₀,k₀))
  (b:∀P,absHeap (T₀ P) m₀ life=H₀ P)
  (size:∀w:Je,((H₀ w.params).isNs I0&&(Array.mk []:Array Ms).size==0,(H₀ w.params).objs.size,(H₀ w.params).nsMap I0 "__annotations__")=(6,m₀,ann))
  (f:∀(w:Je) (os:Op),(lG (stepT (Pz LL) p w) m₀ ann N {T₀ w.params,m₀,life,Array.mk [],d₀,k₀,os} (topStub p)).map (λr=>((staticsOk (K5 p.main.body) (H₀ w.params) r.abs.heap&&namesBound p r.abs.heap&&gensDone r.abs&&laidKept (H₀ w.params) r.abs.heap),
    openSeen q loose (K5 p.main.body) Xt i r.abs,Yf r.abs))=!(6,openGood q loose,Ya w)):LeftO p q loose Xt Yf Ya N i:=λw=>by
 let((h,gs,d,k,os),e,l):=Kf.mp (a w);let(9,9,9,9):h=H₀ w.params/\gs=Array.mk []/\d=d₀/\k=k₀:=by simpa using l
 let(y,z2,z):_/\_/\_:=by simpa only[Pm] using size w
 let(r,n,x):=Kf.mp (f w os);let(o,u,v):_/\_/\_:=by simpa only[Pm] using x
 have c:=qv _ _ _ _ n;unfold SharedT.abs at c;dsimp only at c;rw[b]at c;have t:topFrom LL p w N {H₀ w.params,Array.mk [],d,k,os}=!r.abs:=by
  unfold topFrom;dsimp only;rw[y,z2,z];show Option.bind _ _=_;rw[c];show (match staticsOk (K5 p.main.body) (H₀ w.params) r.abs.heap&&namesBound p r.abs.heap&&gensDone r.abs&&laidKept (H₀ w.params) r.abs.heap with | true=>_ | false=>_)=_;rw[o];rfl
 unfold openEnds;rw[e];show (topFrom LL p w N _).map _=_;rw[t];show congrArg some (QE u v)
def uQ{p q:IY}{loose:7 xD}{Xt:pe->Bool}{i:Type}{Yf:pe->i}{Ya:Je->i}{N:4}{h:Bool}{H₀:PB->Jz}{T₀:PB->BT}{life:Life}{d₀:Drawn}{k₀ m₀:4}{ann:Option n5}
  (a:∀w:Je,(fencedOpening LL p w N).map (λs=>(s.heap,s.gens,s.drawn,s.toks))=!(H₀ w.params,Array.mk [],d₀,k₀))
  (b:∀P,absHeap (T₀ P) m₀ life=H₀ P)
  (size:∀w:Je,((H₀ w.params).isNs I0&&(Array.mk []:Array Ms).size==0,(H₀ w.params).objs.size,(H₀ w.params).nsMap I0 "__annotations__")=(6,m₀,ann))
  (l:∀(w:Je) (os:Op),(lG (stepT (Pz LL) p w) m₀ ann N {T₀ w.params,m₀,life,Array.mk [],d₀,k₀,os} (topStub p)).map (λr=>(staticsOk (K5 p.main.body) (H₀ w.params) r.abs.heap&&namesBound p r.abs.heap&&gensDone r.abs&&laidKept (H₀ w.params) r.abs.heap))=!6)
  (n:∀(w:Je) (os:Op),(lG (stepT (Pz LL) p w) m₀ ann N {T₀ w.params,m₀,life,Array.mk [],d₀,k₀,os} (topStub p)).map (λr=>openSeen q loose (K5 p.main.body) Xt h r.abs)=!openGood q loose)
  (f:∀(w:Je) (os:Op),(lG (stepT (Pz LL) p w) m₀ ann N {T₀ w.params,m₀,life,Array.mk [],d₀,k₀,os} (topStub p)).map (λr=>Yf r.abs)=!Ya w):LeftO p q loose Xt Yf Ya N h:=by
 show yl a b size λw os=>?_;let(r,e,j):=Kf.mp (l w os);have c:=n w os;have d:=f w os;rw[e]at c d ⊢;rw[P4]at c d ⊢;rw[j,vb c,vb d]
def uR(l:7 Ky):BT:=((l.zip (IZ l.length)).foldl (λt x=>t.ins x.2 x.1) .nil)
end L2
namespace My
open PySem PySem.W
def F3:IY:=view PySem.Challenge.pw_sidings_k08_answers_by_hand [0,2,03,04,05,07,08,09,10,11,12,13,14,16,17,18,20,21,22,23,24,25,26,27,28,29,30,31,32,034,35,36,38,39,40,42,43,44,045,46,47,49,50,51,52,53,54,55,056,57,58,59,60,61,62,63,64,65]
open PyProof.Rows
set_option maxRecDepth 100000 in
set_option maxHeartbeats 0 in
def Eo(w:Je)(os:Op):(L2.lG (stepT (Pz LL) PySem.Challenge.pw_sidings_k08_answers_by_hand w) 11 (!.ref 06) 20000 {L2.uR (boot_heap w.params).objs.toList,11,(boot_heap (aWorld 1).params).life,Array.mk [],boot_drawn,boot_toks,os} (topStub PySem.Challenge.pw_sidings_k08_answers_by_hand)).map (λr=>(staticsOk (K5 PySem.Challenge.pw_sidings_k08_answers_by_hand.main.body) (boot_heap w.params) r.abs.heap&&namesBound PySem.Challenge.pw_sidings_k08_answers_by_hand r.abs.heap&&gensDone r.abs&&laidKept (boot_heap w.params) r.abs.heap))=!6:=by
 rewrite [PySem.W.Fast.te10156331382660048174,PySem.W.Fast.te11892475500146522536,PySem.W.Fast.te14364793385576792824]
 kernel_rfl
set_option maxRecDepth 100000 in
set_option maxHeartbeats 0 in
def Ep(w:Je)(os:Op):(L2.lG (stepT (Pz LL) PySem.Challenge.pw_sidings_k08_answers_by_hand w) 11 (!.ref 06) 20000 {L2.uR (boot_heap w.params).objs.toList,11,(boot_heap (aWorld 1).params).life,Array.mk [],boot_drawn,boot_toks,os} (topStub PySem.Challenge.pw_sidings_k08_answers_by_hand)).map (λr=>openSeen My.F3 [] (K5 PySem.Challenge.pw_sidings_k08_answers_by_hand.main.body) (λs=>xlAt My.F3 [] s&&recOk PySem.Challenge.rw_sidings_k08_answers_by_hand.row.records s) 6 r.abs)=!openGood My.F3 []:=by
 rewrite [PySem.W.Fast.te10156331382660048174,PySem.W.Fast.te11892475500146522536,PySem.W.Fast.te14364793385576792824,PySem.W.Fast.te4187177175401517315]
 kernel_rfl
set_option maxRecDepth 100000 in
set_option maxHeartbeats 0 in
def F7:PySem.Challenge.rw_sidings_k08_answers_by_hand.wellSaid=6:=by kernel_rfl
end My
namespace L2
open PySem PySem.Spec PyProof.Rows
abbrev im:=Sum 3 xD
def qw:im->n5->Bool
 | .inl k,v=>Value.isInt k v
 | .inr x,v=>Value.isStrOf x v
def HN(w:Je):im->3
 | .inl k=>hashInt k
 | .inr x=>hashStr w x
def bp:∀{k:im} {v:n5},qw k v=6->(∃i t,k=L7 i/\v=Nt i t)\/(∃x t,k=O8 x/\v=O9 x t)
 | .inl i,v,h=>by
  let(t,e):=Value.isInt_shape (k:=i) (v:=v) h;show .inl ⟨i,t,9,e⟩
 | .inr x,v,h=>by
  let(t,e):=Value.isStrOf_shape (x:=x) (v:=v) h;show .inr ⟨x,t,9,e⟩
def Er(a b:3):decide ((L7 a:im)=L7 b)=(a==b):=by
 by_cases e:a=b
 ·subst e;simp
 ·have h:¬ (L7 a:im)=L7 b:=λq=>e (Sum.inl.inj q)
  rw[decide_eq_false h];show (beq_eq_false_iff_ne.mpr e).symm
def Es(a b:xD):decide ((O8 a:im)=O8 b)=decide (a=b):=by
 by_cases e:a=b
 ·subst e;simp
 ·have h:¬ (O8 a:im)=O8 b:=λq=>e (Sum.inr.inj q)
  rw[decide_eq_false h,decide_eq_false e]
def Et(a:3)(b:xD):decide ((L7 a:im)=O8 b)=5:=decide_eq_false (λq=>nomatch q)
def Eu(a:xD)(b:3):decide ((O8 a:im)=L7 b)=5:=decide_eq_false (λq=>nomatch q)
def bJ(prog:IY)(w:Je):PySem.KeyKind prog w im where
 is:=qw
 hash:=HN w
 inj:=λv a b l f=>by
  let(i,t,9,9)||(x,t,9,9):=bp l
  ·let(j,u,9,e)||(y,u,9,e):=bp f
   ·injection e with c _;rw[c]
   ·show nomatch e
  ·let(j,u,9,e)||(y,u,9,e):=bp f
   ·show nomatch e
   ·injection e with c _;rw[c]
 byValue:=λk v h=>by
  let(i,t,9,9)||(x,t,9,9):=bp h<;>rfl
 pyHash:=λd h=>by
  let(i,t,9,9)||(x,t,9,9):=bp d
  ·show wpAny_pyHash_int h
  ·show wpAny_pyHash_str h
 eqBool:=λn d h=>by
  let(i,t,9,9)||(x,t,9,9):=bp n
  ·let(j,u,9,9)||(y,u,9,9):=bp d
   ·rw[Er]at h;show wpAny_eqBool_int h
   ·rw[Et]at h;show PD i t y u _ _ _ _ h
  ·let(j,u,9,9)||(y,u,9,9):=bp d
   ·rw[Eu]at h;show PF x t j u _ _ _ _ h
   ·rw[Es]at h;show wpAny_eqBool_str h
 «strs»:=λk x t v h=>by
  let(i,u,9,e)||(y,u,9,e):=bp h
  ·show nomatch e
  ·injection e with c _
   subst c;cases v<;>rfl
inductive V where
 | non | bl (b:Bool) | int (i:3) | str (x:xD) | byt (b:Array UInt8) | flt (b:UInt64) | ref (a:mu) | ty (n:String)
 deriving DecidableEq
def aE:V->n5->Prop
 | .non,u=>u=Kp
 | .bl b,u=>u=PH b
 | .int i,u=>∃t,u=Nt i t
 | .str x,u=>∃t,u=O9 x t
 | .byt b,u=>∃t,u=Value.bytes b t
 | .flt b,u=>∃t,u=Qy b t
 | .ref a,u=>u=Ja a
 | .ty n,u=>u=Nu n
abbrev az:7 V->7 n5->Prop:=Paired aE
def iQ:Option V->Option n5->Prop
 | some v,some u=>aE v u
 | none,none=>True
 | _,_=>False
def KV{a:Type}:7 (a×V)->7 (a×n5)->Prop:=Paired λ(p:a×V) (q:a×n5)=>p.1=q.1/\aE p.2 q.2
def kV:im->V
 | .inl i=>.int i
 | .inr x=>.str x
inductive HO where
 | lst (xs:7 V)
 | tup (xs:7 V)
 | dK (kvs:7 (im×V)) | dT (kvs:7 (7 im×V))
 | set (S:3->Bool) (n:4)
 | ins (C dx:mu) (fs:7 (xD×V))
 | own (x:mu)
 | xd (fs:7 (xD×V))
 | met (f x:mu)
 | rng (lo hi:3)
 | frz (o:Ky) (u:HO)
 | tbl (pl:LM) (q:xD)
 | ext (φ:Jz->Prop)
abbrev Hp:=mu->Option HO
section
variable (P:IY) (w:Je)
def aS(H:Hp)(h:Jz)(a:mu):HO->Prop
 | .lst xs=>xs.length<=sizeLine/\∃(its:7 n5) (n:4),az xs its/\h.get? a=some { cls:=.type "list",data:=.seq its.toArray n }
 | .tup xs=>xs.length<=sizeLine/\∃its:7 n5,az xs its/\IsTup h a its.toArray
 | .dK b=>b.length<=sizeLine/\(a==Lq)=5/\∃vs,KV b vs/\h.DictOf (bJ P w) a vs
 | .dT b=>b.length<=sizeLine/\(a==Lq)=5/\∃xs:7 (7 im×mu×n5),
   Paired (λ(p:List im×V) (q:List im×mu×n5)=>p.1=q.1/\H q.2.1=!.tup (p.1.map kV)/\aE p.2 q.2.2) b xs /\
   ∃o l z,h.get? a=!o/\o.ExactDict/\o.data=.dict l z/\l.toList=xs.map (entryOfKey (Pa (bJ P w)))/\(xs.map (·.1)).Nodup
 | .set S n=>h.SetOf (intKind P w) a S n
 | .ins C e fs=>H e=!.own a/\fs.length<=1000/\e≠a/\h.get? a=!Oq C e /\
   ∃d,h.Ns1 e d/\(∀f,iQ (fs.lookup f) (d f))/\PySem.Within d (fs.map (·.1))
 | .own _=>∃o,h.get? a=!o
 | .xd fs=>∃d,h.Ns1 a d/\∀f,iQ (fs.lookup f) (d f)
 | .rng lo hi=>∃t u v,h.get? a=some { cls:=.type "range",data:=.fields #[.int lo t,.int hi u,.int 1 v] }
 | .frz o u=>h.get? a=!o/\aS H h a u
 | .tbl pl q=>∃ps,h.get? a=!PySem.W.tabObj ps/\TriplesOk ps.toList /\
   ∀j,codeAmong pl ps.toList=!j->∃c y vs t,j=.ref c/\H c=!.frz y (.own a)/\y.data=.fields vs/\vs[1]?=!.str q t
 | .met f x=>h.get? a=!PySem.W.methodObj (.ref f) (.ref x)
 | .ext i=>i h/\(∃o,h.get? a=!o)/\∀r s:Jz,i r->(∀o,r.get? a=!o->s.get? a=!o)->i s
def iP(H:Hp)(h:Jz):Prop:=∀a o,H a=!o->aS P w H h a o
end
def Rd(H:Hp)(a:mu)(u:HO):Prop:=H a=!u\/∃o,H a=!.frz o u
structure Un(fs ex:7 mu)(H H':Hp)(h h':Jz):Prop where
 keep:∀b o,h.get? b=!o->H b=8->b∉fs->b∉ex->h'.get? b=!o
 slot:∀b o,h.get? b=!o->H b=8->b∈fs->b∉ex->∃sl,h'.get? b=some { o with slots:=sl }
 free:∀b o,h.get? b=!o->H b=8->b∉ex->H' b=8
 there:∀b o,h.get? b=!o->b∉ex->∃o',h'.get? b=!o'
 tups:∀b xs,H b=!.tup xs->H' b=!.tup xs
 frzs:∀b o u,H b=!.frz o u->H' b=!.frz o u
 tbls:∀b pl q,H b=!.tbl pl q->H' b=!.tbl pl q
def ar(h:Jz)(H:Hp):7 mu:=(IZ h.objs.size).filter λa=>(H a).isSome
def rL(h:Jz)(H:Hp):Jz:=PySem.W.hideAll h (ar h H)
def ym(h:Jz)(H:Hp):(rL h H).objs.size=h.objs.size:=PySem.W.hideAll_size _ _
def zL{h:Jz}{H:Hp}{b:mu}{o:Ky}(e:h.get? b=!o)(n:H b=8):(rL h H).get? b=!o:=
 PySem.W.hideAll_get _ e λa=>by
  have q:(H b).isSome=6:=(OG.mp a).2;rw[n]at q;simp at q
def Ca{h:Jz}{H:Hp}{b:mu}{o:Ky}(e:(rL h H).get? b=!o):h.get? b=!o/\H b=8:=by
 have a:h.get? b=!o:=PySem.W.of_hideAll (ar h H) e;show {a,?_};cases q:H b with
 | none=>rfl
 | some x=>
  have c:b∈ar h H:=OG.mpr ⟨J9.mpr (xE a),by simp[q]⟩;have z:(rL h H).get? b=8:=PySem.W.hideAll_none (ar h H) c;rw[z]at e;cases e
structure Mod(K:PySem.W.Frag)(mg:xD->Option n5)(base:Jz):Prop where
 kin:K.In base
 glob:base.Ns I0 mg
 blt:∃mb,base.Ns MU mb/\∀x:xD,x ≠ "__name__"->mb x=Js x
 nolimit:base.NoLimit
 bm:∃bm ob,mg "__builtins__"=!.ref bm/\bm≠MU/\base.get? bm=!ob/\ob.cls=.type "module"/\ob.dict=!MU/\ob.data=.plain
def oE(l:7 N5):7 mu:=l.filterMap (·.frame)
abbrev XK:=n5->Option mu->Hp->Prop
abbrev VK:=V->Hp->Prop
def ak(K:PySem.W.Frag)(H:Hp)(a:mu)(xs:7 V):Prop:=
 Rd H a (.lst xs) \/
  ∃(its:Array n5) (n:4),K.lookup a=some { cls:=.type "list",data:=.seq its n }/\its.size<=sizeLine/\az xs its.toList
def b9(K:PySem.W.Frag)(H:Hp)(a:mu)(xs:7 V):Prop:=
 Rd H a (.tup xs) \/
  ∃(o:Ky) (its:Array n5) (n:4),K.lookup a=!o/\o.cls=.type "tuple"/\o.data=.seq its n/\its.size<=sizeLine/\az xs its.toList
structure nt(K:PySem.W.Frag)(C:mu):Prop where
 pg:plainGet K C Str.empty=6
 hd:PySem.W.hasDictIn K C=6
 po:PySem.W.plainOver K C=6
 sa:PySem.W.findIn K (.ref C) "__setattr__"=!!.builtin "object.__setattr__"
def aF(K:PySem.W.Frag)(C:mu)(f:xD):Prop:=PySem.W.findIn K (.ref C) f=!8
structure zM(K:PySem.W.Frag)(C:mu)(m:xD)(f:mu):Prop where
 at_:PySem.W.findIn K (.ref C) m=!!.ref f
 fn:isFn K (.ref f)=6
 kp:Mf K (.ref f)=6
structure bv(k:4)(A:Jq):Prop where
 hd:A.handled=8
 dp:A.depth+03*k+05<OS
 un:A.units+16*k+200<NQ
abbrev Sp:=7 V->Hp->VK->XK->Prop
abbrev oF:=7 N5->Hp->pe->XK->n5->pe->Prop
structure uS(P:IY)(w:Je)(K:PySem.W.Frag)(mg:xD->Option n5)(base:Jz)(A:Jq)(outer:7 N5)(s:pe)(H:Hp):Prop where
 frames:A.frames=!outer
 mod:Mod K mg base
 bs:∀b o,base.get? b=!o->s.heap.get? b=!o/\H b=8
 bsz:base.objs.size<=↑s
 funs:s.heap.FunFrames base outer
 frf:∀b∈oE outer,H b=8
 hok:iP P w H s.heap
 bare:AllBare s.gens
def CE(outer:7 N5)(P:IY)(w:Je)(H:Hp)(s:pe)(Q:VK)(u:n5)(s':pe):Prop:=
 ∃v a,s'.os=s.os/\AllBare s'.gens/\Un (oE outer) [] H a s.heap s'.heap/\iP P w a s'.heap/\aE v u/\Q v a
def CR(CX:oF)(outer:7 N5)(P:IY)(w:Je)(H:Hp)(s:pe)(Q:VK)(E:XK)(r:PJ)(s':pe):Prop:=
 match r with
 | .ok (.ret u)=>CE outer P w H s Q u s'
 | .ok _=>False
 | .error e=>CX outer H s E e s'
structure cQ(P:IY)(w:Je)(K:PySem.W.Frag)(mg:xD->Option n5)(base:Jz)(CX:oF)(k:4)(f:mu)(fd:Kz)(ps:7 xD)(sp:Sp):Prop where
 len:∀vs H Q E,sp vs H Q E->vs.length=ps.length
 run:∀(A:Jq) (outer:7 N5) (s:pe) (H:Hp) (args:Args) (us:7 n5) (vs:7 V) (Q:VK) (E:XK),bv k A->uS P w K mg base A outer s H->P5 s fd args (ps.zip us)->az vs us->sp vs H Q E->
  K0 (model P w) A (.call (.ref f) args) (CR CX outer P w H s Q E) s
def cH(K:PySem.W.Frag)(fd:Kz)(ps:7 xD)(a:7 n5):Prop:=
 ∀(s:pe) (us:7 n5),K.In s.heap->(us++a).length=ps.length->P5 s fd {us,[]} (ps.zip (us++a))
def cH.all{K:PySem.W.Frag}{fd:Kz}{ps:7 xD}(h:∀us:7 n5,us.length=ps.length->P6 fd {us,[]}=pure (ps.zip us)):cH K fd ps []:=λs us _ a=>by
 rw[Kb]at a ⊢;show .of_eq (h us a)
section
variable {X:Cx} {CX:oF} {k:4} {f C:mu} {fd:Kz} {ps:7 xD} {sp:Sp} {dvs:7 V} {ds:7 n5} {E:XK} {x m:xD} {p pos apos:LM} {e o:JF} {es:7 JF} {ta:TE} {t:TA}
structure Mk(K:PySem.W.Frag)(C f:mu):Prop where
 makes:PySem.W.makesIn K C=6
 init:PySem.W.findIn K (.ref C) "__init__"=!!.ref f
 fn:isFn K (.ref f)=6
 kp:Mf K (.ref C)=6
end
section
variable {prog:IY} {w:Je} {A:Jq} {E:n5->pe->Prop} {s:pe}
set_option maxRecDepth 100000 in
end
end L2
namespace Att
open PySem PySem.W PySem.Calls PyProof.Rows
def n8{P:PB}{h:Jz}:∀(ns:7 3) (vs:7 n5),WellAll P h vs (ns.map WData.int)->IntsAre vs ns:=by
 intro ns
 induction ns with
 | nil=>
  intro vs w;rw[P9]at w;cases w;show .nil
 | cons n ns c=>
  intro vs w;rw[KH]at w;cases w with
  | cons a b=>
   cases a;show .cons _ _ (c _ b)
def yn{l:OpenLaw}{n:4}(v:l.most=!n){P:PB}{h:Jz}{args:7 WData}{c:7 n5}
  (b:l.row.toRowW.claim.pre args=6) (p:WellAll P h c args):
  ∃a vs ns,c=[Ja a]/\args=[WData.list (ns.map WData.int)]/\h.get? a=some { cls:=.type "list",data:=.seq vs.toArray }/\IntsAre vs ns/\ns.length<=n:=by
 have o:WShape.hasAll [] args [.list .int]=6:=(pre_splitW b).1;have hc:l.pre.holds [] { args:=args }=6:=(pre_splitW b).2;let(d,r,9,s,t):=hasAllW_cons o;let 9:=hasAllW_nil t;let(xs,9,u):=hasW_list s;let(ns,9):=items_int u;have f:ns.length<=n:=by
  unfold OpenLaw.pre at hc;have i:(WTm.not (.lt (.lit (.int (n:3))) (.len (.arg 0)))).holds [] { args:=[.list (ns.map .int)] }=6:=by
   have i:=(holds_andW hc).1;rw[v]at i;show i
  have j:=condW_of i (w_not (w_lt w_lit (w_len_list (w_arg 9))));rw[lj]at j;show Nat.le_of_not_lt λq=>?_;have y:(n:3)<((ns.length:4):3):=()
  first
   | (rw[decide_eq_true y]at j;show absurd j (by decide))
   | (simp at j;omega)
 cases p with
 | cons z A=>
  cases A;cases z with
  | list x e=>show ⟨_,_,ns,9,9,x,n8 ns _ e,f⟩
def yo(l:OpenLaw)(args:7 WData):l.row.toRowW.claim.post args (.bool 6) args=6:=
 postW_of (r:=l.row.toRowW) (X:=(6==6))
  (show WShape.has [] (.bool 6) .bool=6 by first | rfl | decide | simp[WShape.has,WShape.arms,WShape.armsAll])
  (show (WTm.eq .res (.lit (.bool 6))).value [] { args:=args,res:=!.bool 6,after:=args }=some (.bool (6==6)) from w_eq_bool (w_res 9) w_lit) 9
def attach_call{l:OpenLaw}{n:4}{q:IY}{loose:7 xD}{XP:(xD->Option n5)->Jz->Prop}{YP:Je->Jz->Prop}{d:DefRec}
  (U:l.most=!n) (v:d.params.defaults=[])
  (call:∀(w:Je) (c b:pe) (mg z:xD->Option n5) (i:mu) (o:Ky) (A t e:n5) (a:mu) (vs:7 n5) (ns:7 3),
   Ground q loose [] XP w c mg z b.heap->YP w b.heap->
   b.heap.get? i=!o->o.data=.func (docDef d.name d.params d.body d.scope A t e)->b.heap.CodeRec t d.name->mg d.name=!.ref i->
   b.heap.get? a=some { cls:=.type "list",data:=.seq vs.toArray }->IntsAre vs ns->ns.length<=n->b.gens=#[]->
   K0 (model l.prog w) Pb (.call (.ref i) {[.ref a],[]}) (λr s'=>r=.ok (.ret (.bool 6))/\OldK b.heap s'.heap/\s'.os=b.os/\AllBare s'.gens) b):
  WalkO q loose XP YP l.row.toRowW d [] (λf vs=>PySem.call f vs):=by
 intro w c b mg z G Y i o A t e E kV ho N u B x O args D as s C ab y Q
 let 9:E=.none:=Dflts.none B v;let 9:kV=.none:=Dflts.noKw B;let(a,vs,ns,9,9,p,h,j):=yn U s y;show enter_call (KC (call w c b mg z i o A t e a vs ns G Y ho (fd_plain N) u x p h j O) λr s' hq=>?_);let(9,H,I,M):=hq;show {.inl {.bool 6,.bool 6,[],9,λ_=>rfl,.bool 6,yo l _,λ_=>{List.Pairwise.nil,λ_ T=>(nomatch T)}},H,I,M}
end Att
namespace L2
open PySem PySem.Spec PyProof.Rows
def mH:∀{vs:7 n5} {ns:7 3},IntsAre vs ns->az (ns.map V.int) vs
 | _,_,.nil=>.nil
 | _,_,.cons n t h=>.cons ⟨t,9⟩ (mH h)
def aB(s:Jt)(j:4):Jt:=match s with
 | .ClassDef _ _ _ a _ _ _ _ _ _ _=>a.getD j (.Pass ⟨0,0,0,0⟩)
 | _=>.Pass ⟨0,0,0,0⟩
def cK(s:Jt):Pc:=match s with
 | .FunctionDef _ a _ _ _ _ _ _ _ _=>a
 | _=>{ posonlyargs:=[],args:=[],vararg:=8,kwonlyargs:=[],kw_defaults:=[],kwarg:=8,defaults:=[] }
def bK(s:Jt):7 Jt:=match s with
 | .FunctionDef _ _ b _ _ _ _ _ _ _=>b
 | _=>[]
def ah(s:Jt):JT:=match s with
 | .FunctionDef _ _ _ _ _ _ sc _ _ _=>sc
 | _=>{ kind:=.function,names:=[],isGenerator:=5,isCoroutine:=5 }
abbrev bu:oF:=λ_ _ _ _ _ _=>False
structure qe(K:PySem.W.Frag)(x qual:xD)(st:Jt)(f:mu)(fd:Kz):Prop where
 ex:∃(oc:n5) (od:Option mu) (kV doc pm:n5) (an:Option mu) (cdv ct:n5) (osl:Array (Option n5)),
  fd=QC x qual (cK st) (bK st) (ah st) .none kV doc pm an cdv ct/\K.lookup f=some {oc,od,.func fd,osl}/\OT K cdv qual=6
 kp:Mf K (.ref f)=6
section
variable {P:IY} {w:Je} {K:PySem.W.Frag} {mg:xD->Option n5} {base:Jz}
def qe.binds{x a:xD}{st:Jt}{f:mu}{fd:Kz}{ps:7 xD}(F:qe K x a st f fd)
  (h:∀(kV b i:n5) (e:Option mu) (cdv ct:n5) (us:7 n5),us.length=ps.length->P6 (QC x a (cK st) (bK st) (ah st) .none kV b i e cdv ct) {us,[]}=pure (ps.zip us)):cH K fd ps []:=by
 let(s,od,kV,b,i,e,cdv,ct,n,9,q,j):=F.ex;show .all (h kV b i e cdv ct)
def eO{x a:xD}{st:Jt}{f:mu}{i:n5}{od e:Option mu}{d:Array (Option n5)}{kV b h cdv ct:n5}(l:K.lookup f=some {i,od,.func (QC x a (cK st) (bK st) (ah st) .none kV b h e cdv ct),d})
  (c:OT K cdv a=6) (k:Mf K (.ref f)=6):qe K x a st f (QC x a (cK st) (bK st) (ah st) .none kV b h e cdv ct):={⟨i,od,kV,b,h,e,cdv,ct,d,9,l,c⟩,k}
end
end L2
namespace Xc
open PySem PySem.W PySem.Calls PyProof.Rows Builtin Builtin.ObjectAttr
def iR:7 n5->Bool
 | .ref _::r=>iR r
 | l=>l==[.type "ValueError",.type "Exception",.type "BaseException",.type "object"]
structure XC(K:Frag)(C:mu):Prop where
 mro:(clsIn K C).any (λcd=>iR cd.mro)=6
 hd:hasDictIn K C=6
 ga:findIn K (.ref C) "__getattribute__"=!!.builtin "BaseException.__getattribute__"
 gh:findIn K (.ref C) "__getattr__"=!8
 sa:findIn K (.ref C) "__setattr__"=!!.builtin "object.__setattr__"
 ca:findIn K (.ref C) "__class__"=!!.builtin "object.__class__"
 cg:specialIn K (.builtin "object.__class__") "__get__"=!!.builtin "getset_descriptor.__get__"
 ct:takesIn K (.builtin "object.__class__")=!6
end Xc
namespace L2
open PySem PySem.Spec PyProof.Rows
abbrev HQ:7 n5:=[.type "ValueError",.type "Exception",.type "BaseException",.type "object"]
def Ev(K:PySem.W.Frag)(C:mu):Bool:=match K.lookup C with
 | some ⟨.type "type",_,.cls a,sl⟩=>(match a.mro,sl.toList with
  | .ref b::bm,[_,_,_,_,some (.builtin n),_]=>b==C&&n == "ValueError.__new__"&&(not a.hasDel)&&PySem.W.tailIn K HQ bm&&PySem.W.nsOkIn K a.ns
  | _,_=>5)
 | _=>5
section
variable {X:Cx} {CX:oF} {k:4} {f C:mu} {fd:Kz} {ps:7 xD} {sp:Sp} {E:XK} {x:xD} {p pos apos rpos:LM} {e o:JF} {es:7 JF} {ta tv:TE} {t:TA}
structure HR(K:PySem.W.Frag)(C f:mu):Prop where
 x:Ev K C=6
 init:((PySem.W.clsIn K C).bind λcd=>MV K cd.ns "__init__")=!!.ref f
 fn:isFn K (.ref f)=6
 kp:Mf K (.ref C)=6
end
structure gQ(K:PySem.W.Frag)(mg:xD->Option n5)(x:xD)(st:Jt)(ps:7 xD):Prop where
 ex:∃f fd,qe K x x st f fd/\mg x=!.ref f/\cH K fd ps []
structure nu(K:PySem.W.Frag)(C:mu)(m qual:xD)(st:Jt)(ps:7 xD):Prop where
 ex:∃f fd,qe K m qual st f fd/\zM K C m f/\cH K fd ps []
structure vZ(K:PySem.W.Frag)(C:mu)(qual:xD)(st:Jt)(ps:7 xD):Prop where
 ex:∃f fd,qe K "__init__" qual st f fd/\Mk K C f/\cH K fd ps []
structure tj(K:PySem.W.Frag)(Y:mu):Prop where
 h1:PySem.W.specialIn K (.ref Y) "__getattribute__"=!!.builtin "type.__getattribute__"
 h2:PySem.W.readsIn K Y (.type "type")=6
 h3:PySem.W.findCls K (.ref Y) (.type "type") "__init__"=!.val (.builtin "ValueError.__init__")
structure HS(K:PySem.W.Frag)(C:mu)(qual:xD)(st:Jt)(ps:7 xD):Prop where
 ex:∃f fd,qe K "__init__" qual st f fd/\HR K C f/\cH K fd ps []
structure Cb(K:PySem.W.Frag)(C:mu):Prop where
 ha:PySem.W.findIn K (.ref C) "__class__"=!!.builtin "object.__class__"
 hn:PySem.W.specialIn K (.builtin "object.__class__") "__get__"=!!.builtin "getset_descriptor.__get__"
 htk:PySem.W.takesIn K (.builtin "object.__class__")=!6
 hm:PySem.W.mroIn K C (.type "object")=!6
abbrev F8:=mu->Option (LM×xD)
def mI(K:PySem.W.Frag)(L:7 (xD×LM×xD)):F8:=λb=>L.findSome? λe=>match Qa K e.1 with
 | some p=>if b=p.2 then some e.2 else 8
 | none=>8
def tp{K:PySem.W.Frag}{L:7 (xD×LM×xD)}{b:mu}{p:LM×xD}(h:mI K L b=!p):∃e∈L,∃c,Qa K e.1=!(c,b):=by
 unfold mI at h;let(e,d,q):=List.exists_of_findSome?_eq_some h;show {e,d,?_};cases z:Qa K e.1 with
 | none=>rw[z]at q;cases q
 | some r=>
  rw[z]at q;dsimp only at q
  split at q
  ·rename_i a
   show ⟨r.1,by rw[a]⟩
  ·cases q
def uT(K:PySem.W.Frag)(L:7 (xD×LM×xD))(H:Hp):Prop:=∀b p,mI K L b=!p->H b=!.tbl p.1 p.2
def yp{P:IY}{w:Je}{K:PySem.W.Frag}{mg mb:xD->Option n5}{CX:oF}{k:4}{fa a:mu}{fd:Kz}{x:xD}{sp:Sp}{f:pe}{vs:7 n5}{ns:7 3}(A:F8)
  (KX:K.In f.heap) (U:f.heap.Ns I0 mg) (l:f.heap.Ns MU mb) (ap:∀x:xD,x ≠ "__name__"->mb x=Js x) (T:f.heap.NoLimit) (hg:f.gens=#[])
  (as:∃bm I,mg "__builtins__"=!.ref bm/\bm≠MU/\f.heap.get? bm=!I/\I.cls=.type "module"/\I.dict=!MU/\I.data=.plain)
  (t:∀b p,A b=!p->∃c,PySem.W.CodeHd f.heap c b/\f.heap.get? b=!(PySem.W.tabObj #[])) (ac:∀b p,A b=!p->K.lookup b=8)
  (O:f.heap.get? a=some { cls:=.type "list",data:=.seq vs.toArray }) (hi:IntsAre vs ns) (hl:ns.length<=sizeLine) (hr:bv k Pb)
  (F:∀base:Jz,K.In base->base.Ns I0 mg->cQ P w K mg base CX k fa fd [x] sp) (hbind:∀(s:pe) (u:n5),P5 s fd {[u],[]} [(x,u)])
  (hsp:∀H:Hp,(∀b p,A b=!p->H b=!.tbl p.1 p.2)->ak K H a (ns.map V.int)->sp [.ref a] H (λv _=>v=.bl 6) λ_ _ _=>False)
  (hCX:∀H e s',CX [] H f (λ_ _ _=>False) e s'->False):
  K0 (model P w) Pb (.call (.ref fa) {[.ref a],[]}) (λr s'=>r=.ok (.ret (.bool 6))/\OldK f.heap s'.heap/\s'.os=f.os/\AllBare s'.gens) f:=by
 have rv:=mH hi;have an:=hi.length;have aA:∀p,A a≠some p:=λp z=>by
  let(c,_,e):=t a p z;rw[O]at e;cases e
 have B:∀H:Hp,(∀b p,A b=!p->H b=!.tbl p.1 p.2)->ak K H a (ns.map V.int)->iP P w H f.heap->
   (∀b u,H b=!u->(b=a/\(∃o xs,u=.frz o (.lst xs))/\K.lookup a=8)\/∃p,A b=!p/\u=.tbl p.1 p.2)->
   K0 (model P w) Pb (.call (.ref fa) {[.ref a],[]}) (λr s'=>r=.ok (.ret (.bool 6))/\OldK f.heap s'.heap/\s'.os=f.os/\AllBare s'.gens) f:=by
  intro H hT hS ab hA;have j:∀{b:mu} {o:Ky} {u:HO},f.heap.get? b=!o->H b=!u->(∃xs n,o.data=.seq xs n)\/∃ps,o.data=.fields ps/\o.cls=.none:=λ{b o u} e q=>by
   let(9,_)||(p,hp,_):=hA b u q
   ·rw[O]at e;cases e;show .inl {_,_,9}
   ·let(c,_,e'):=t b p hp
    rw[e']at e;cases e;show .inr {_,9,9}
  have i:∀{b:mu} {o:Ky},f.heap.get? b=!o->H b=8->(rL f.heap H).get? b=!o:=λe n=>zL e n;have aC:∀{b:mu} {o:Ky} {es:Array DictEntry} {ep:4},f.heap.get? b=!o->o.data=.dict es ep->H b=8:=λ{b o es ep} e d=>by
   cases q:H b with
   | none=>rfl
   | some u=>
    let(xs,n,z)||(ps,z,_):=j e q
    ·rw[d]at z;cases z
    ·rw[d]at z;cases z
  have y:∀{b:mu} {m:xD->Option n5},f.heap.Ns b m->(rL f.heap H).Ns b m:=λ{b m} ⟨o,es,ep,e,d,r⟩=>{o,es,ep,i e (aC e d),d,r};have N:K.In (rL f.heap H):=λb o e=>i (KX b o e) (by
   cases q:H b with
   | none=>rfl
   | some u=>
    let(9,_,z)||(p,hp,_):=hA b u q
    ·rw[z]at e;cases e
    ·rw[ac b p hp]at e;cases e)
  let(bm,I,m1,m2,m3,m4,m5,m6):=as;have Q:H bm=8:=by
   cases q:H bm with
   | none=>rfl
   | some u=>
    let(xs,n,z)||(ps,z,_):=j m3 q
    ·rw[m6]at z;cases z
    ·rw[m6]at z;cases z
  have hM:Mod K mg (rL f.heap H):=⟨N,y U,⟨mb,y l,ap⟩,let ⟨mc,h1,h2⟩:=T;{mc,y h1,h2},{bm,I,m1,m2,i m3 Q,m4,m5,m6}⟩;have e0:uS P w K mg (rL f.heap H) Pb [] f H:={9,hM,λb o e=>Ca e,Ot (ym _ _),trivial,λb l=>absurd (show b∈([]:7 mu) from l) (by simp),ab,.of_eq hg};show KC ((F _ N (y U)).run Pb [] f H {[.ref a],[]} [.ref a] [.ref a] _ _ hr e0 (hbind f (.ref a)) (.cons 9 .nil) (hsp H hT hS)) λr s' h=>?_;cases r with
  | error e=>show (hCX H e s' h).elim
  | ok fl=>
   cases fl with
   | next=>show JB h
   | brk=>show JB h
   | cont=>show JB h
   | ret u=>
    let(v,H',os,M,un,D,r',q):=h;have q':v=.bl 6:=q;subst q';let 9:u=PH true:=r';have a1:∀b o,f.heap.get? b=!o->asItWas f.heap s'.heap b o:=λb o e=>by
     cases q:H b with
     | none=>show .inl (un.keep b o e q (by intro z;show absurd (show b∈([]:7 mu) from z) (by simp)) (by simp))
     | some u=>
      let(9,(a0,xs,9),_)||(p,hp,9):=hA b u q
      ·have z2:=un.frzs b a0 _ q
       let(e1,_):=ab b _ q;let(e2,_):=D b _ z2;rw[e]at e1;cases e1;show .inl e2
      ·let(c,C,e'):=t b p hp
       rw[e']at e;cases e;let(ps,z,_):=D b _ (un.tbls b _ _ q);show .inr (.inl {(C.tab e').isCodeTable,9,#[],ps,9,?_});rw[z];simp
    show {9,{a1,λb o e=>un.there b o e (by simp)},os,M}
 have tok:∀(H:Hp) b p,A b=!p->aS P w H f.heap b (.tbl p.1 p.2):=λH b p hp=>by
  let(c,_,e):=t b p hp;show {#[],e,trivial,λcv z=>?_};simp[codeAmong]at z
 cases hk:K.lookup a with
 | some o=>
  have e:=KX a o hk;rw[O]at e;cases e;show B (λb=>(A b).map λp=>.tbl p.1 p.2) (λb p hp=>by simp[hp]) (.inr ⟨vs.toArray,_,hk,by rw[y9,an];show hl,by simpa using rv⟩) (λb u z=>?_) (λb u z=>?_)
  ·let(p,hp,9):=Kf.mp z
   show tok _ b p hp
  ·let(p,hp,9):=Kf.mp z
   show .inr ⟨p,hp,9⟩
 | none=>
  show B (λb=>if b=a then some (.frz { cls:=.type "list",data:=.seq vs.toArray } (.lst (ns.map V.int))) else (A b).map λp=>.tbl p.1 p.2) (λb p hp=>?_) (.inl (.inr {{ cls:=.type "list",data:=.seq vs.toArray },if_pos 9})) (λb u z=>?_) (λb u z=>?_)
  ·have l:b≠a:=λq=>aA p (q▸hp)
   show (if b=a then _ else _)=_;rw[if_neg l,hp];rfl
  ·by_cases l:b=a
   ·have E:=(if_pos l).symm.trans z
    cases E;subst l;show ⟨O,by rw[lj];show hl,vs,_,rv,O⟩
   ·have E:=(if_neg l).symm.trans z
    let(p,hp,9):=Kf.mp E;show tok _ b p hp
  ·by_cases l:b=a
   ·have E:=(if_pos l).symm.trans z
    cases E;show .inl {l,{_,_,9},hk}
   ·have E:=(if_neg l).symm.trans z
    let(p,hp,9):=Kf.mp E;show .inr ⟨p,hp,9⟩
def zN{l:PySem.W.OpenLaw}{n k:4}{q:IY}{loose:7 xD}{XP:(xD->Option n5)->Jz->Prop}{YP:Je->Jz->Prop}{d:DefRec}{K:PB->PySem.W.Frag}{CX:Je->oF}{sp:Je->Sp}{x:xD}(L:7 (xD×LM×xD))
  (hn:l.most=!n) (N:n<=sizeLine) (E:d.params.defaults=[]) (hr:bv k Pb)
  (hY:∀(w:Je) (h:Jz),YP w h->(K w.params).In h)
  (hL:∀e∈L,∃d',(recsOf q).find? (λr=>r.name==e.1)=!d') (hK:∀(w:Je),∀e∈L,∀c P,Qa (K w.params) e.1=!(c,P)->(K w.params).lookup P=8)
  (F:∀(w:Je) (mg:xD->Option n5) (A:mu) (h:Jz),(K w.params).In h->h.Ns I0 mg->mg d.name=!.ref A->
   ∃fd:Kz,(∀(s:pe) (u:n5),P5 s fd {[u],[]} [(x,u)]) /\
    ∀base:Jz,(K w.params).In base->base.Ns I0 mg->cQ l.prog w (K w.params) mg base (CX w) k A fd [x] (sp w))
  (O:∀(w:Je) (H:Hp) (a:mu) (ns:7 3),ns.length<=n->uT (K w.params) L H->ak (K w.params) H a (ns.map V.int)->sp w [.ref a] H (λv _=>v=.bl 6) λ_ _ _=>False)
  (C:∀(w:Je) (H:Hp) (s:pe) (e:n5) (s':pe),CX w [] H s (λ_ _ _=>False) e s'->False):
  PySem.W.WalkO q loose XP YP l.row.toRowW d [] (λf vs=>PySem.call f vs):=by
 show Att.attach_call hn E λw Q y mg mb A o pm cd T a vs ns G Y ho hd ab M t j i hg=>?_
 have B:=hY w _ Y;let(fd,hb,hF):=F w mg A _ B G.T.g M;show yp (mI (K w.params) L) B G.T.g G.T.b G.T.builtins G.T.nolimit hg G.T.bmain (λb p hp=>?_) (λb p hp=>?_) t j (xM i N) hr hF hb (λH hO hS=>O w H a ns i hO hS) λH e s'=>C w H y e s'
 ·let(e,I,c,z):=tp hp
  let(d',D):=hL e I;let(U,h2):=PySem.W.tab_of G.T B D z;show ⟨c,U,h2⟩
 ·let(e,I,c,z):=tp hp
  show hK w e I c b z
structure HU(K:PySem.W.Frag)(mg:xD->Option n5)(x:xD)(st:Jt)(ps:7 xD)(c P:mu):Prop where
 ex:∃f fd,qe K x x st f fd/\mg x=!.ref f/\cH K fd ps []/\fd.code=.ref c
 hd:PySem.W.codeHdIn K c P=6
structure X0(K:PySem.W.Frag)(C:mu):Prop where
 x:Ev K C=6
 init:((PySem.W.clsIn K C).bind λcd=>MV K cd.ns "__init__")=!8
 kp:Mf K (.ref C)=6
end L2
namespace My
open PySem L2
def bB(i:4):Jt:=PySem.Challenge.pw_sidings_k08_answers_by_hand.main.body.getD i (.Pass {0,0,0,0})
abbrev HF:Jt:=bB 0
abbrev lH:Jt:=aB (bB 05) 0
abbrev nv:Jt:=bB 08
abbrev dJ:Jt:=bB 09
abbrev dL:Jt:=bB 10
abbrev dM:Jt:=bB 11
abbrev iS:Jt:=bB 12
abbrev iT:Jt:=bB 13
abbrev io:Jt:=bB 14
abbrev lI:Jt:=aB (bB 16) 0
abbrev f8:Jt:=aB (bB 16) 1
abbrev iU:Jt:=aB (bB 16) 2
abbrev iq:Jt:=aB (bB 16) 03
abbrev yq:Jt:=aB (bB 16) 04
abbrev nw:Jt:=aB (bB 17) 0
abbrev gb:Jt:=aB (bB 17) 1
abbrev ir:Jt:=aB (bB 17) 2
abbrev fo:Jt:=aB (bB 17) 03
abbrev uU:Jt:=aB (bB 17) 04
abbrev bL:Jt:=bB 18
abbrev oW:Jt:=bB 20
abbrev gR:Jt:=bB 21
abbrev b6:Jt:=bB 22
abbrev bM:Jt:=bB 23
abbrev oX:Jt:=bB 24
abbrev iV:Jt:=aB (bB 26) 0
abbrev iu:Jt:=aB (bB 26) 1
abbrev lJ:Jt:=aB (bB 27) 0
abbrev ki:Jt:=aB (bB 27) 1
abbrev oY:Jt:=aB (bB 28) 0
abbrev iW:Jt:=aB (bB 28) 1
abbrev iX:Jt:=aB (bB 29) 0
abbrev iy:Jt:=aB (bB 29) 1
abbrev kj:Jt:=aB (bB 30) 0
abbrev iY:Jt:=aB (bB 30) 1
abbrev lK:Jt:=aB (bB 31) 0
abbrev km:Jt:=aB (bB 31) 1
abbrev ko:Jt:=aB (bB 32) 0
abbrev iZ:Jt:=aB (bB 32) 1
abbrev kq:Jt:=aB (bB 034) 0
abbrev kr:Jt:=aB (bB 034) 1
abbrev eQ:Jt:=aB (bB 034) 2
abbrev ku:Jt:=aB (bB 034) 03
abbrev fQ:Jt:=aB (bB 35) 0
abbrev ft:Jt:=aB (bB 35) 1
abbrev eR:Jt:=aB (bB 35) 2
abbrev gc:Jt:=aB (bB 35) 03
abbrev ge:Jt:=bB 36
abbrev dN:Jt:=aB (bB 38) 0
abbrev cI:Jt:=aB (bB 38) 1
abbrev bg:Jt:=aB (bB 38) 2
abbrev eS:Jt:=aB (bB 38) 03
abbrev eU:Jt:=aB (bB 38) 04
abbrev gf:Jt:=aB (bB 38) 05
abbrev iz:Jt:=bB 39
abbrev kx:Jt:=bB 40
abbrev fu:Jt:=bB 42
abbrev tq:Jt:=bB 43
abbrev gg:Jt:=bB 44
abbrev dY:Jt:=bB 045
abbrev cq:Jt:=bB 46
abbrev lL:Jt:=bB 47
abbrev dO:Jt:=bB 49
abbrev fv:Jt:=bB 50
abbrev i0:Jt:=bB 51
abbrev eV:Jt:=bB 52
abbrev kB:Jt:=bB 53
abbrev i4:Jt:=bB 54
abbrev kZ:Jt:=bB 55
abbrev eW:Jt:=bB 056
abbrev ny:Jt:=bB 57
abbrev nB:Jt:=bB 58
abbrev dj:Jt:=bB 59
abbrev cr:Jt:=bB 60
abbrev cR:Jt:=bB 61
abbrev cS:Jt:=bB 62
abbrev dZ:Jt:=bB 63
abbrev aL:Jt:=bB 64
abbrev lM:Jt:=bB 65
abbrev eX:LM:={114,42,114,69}
abbrev eY:xD:=(PyProof.Rows.envOfC "places_in_order" (ah bL) 0 0 .none).qual ++ "<lambda>"
def tu:7 (xD×LM×xD):=[("places_in_order",eX,eY)]
structure Adr where
 aA:mu
 aB:mu
 aC:mu
 aD:mu
 aE:mu
 aF:mu
 aG:mu
 aH:mu
 aI:mu
 aJ:mu
 aK:mu
 aL:mu
 aM:mu
 aN:mu
 aO:mu
 aP:mu
 aQ:mu
 aR:mu
 aS:mu
 aT:mu
structure Tx(K:PySem.W.Frag)(mg:xD->Option n5)(Z:Adr):Prop where
 aA:mg "all"=8
 aB:mg "any"=8
 aC:mg "bool"=8
 aD:mg "enumerate"=8
 aE:mg "int"=8
 aG:mg "isinstance"=8
 aH:mg "len"=8
 aI:mg "list"=8
 aJ:mg "max"=8
 aK:mg "min"=8
 aM:mg "range"=8
 aN:mg "reversed"=8
 aO:mg "set"=8
 aP:mg "sorted"=8
 aQ:mg "str"=8
 aR:mg "sum"=8
 aS:mg "tuple"=8
 aT:mg "zip"=8
 aU:gQ K mg "is_number" nv ["value"]
 aV:gQ K mg "checked_train" dJ ["train"]
 aW:gQ K mg "has_two_alike" dL ["wagons"]
 aX:gQ K mg "checked_moves" dM ["moves", "many"]
 aY:gQ K mg "checked_move" iS ["move", "many"]
 aZ:gQ K mg "checked_word" iT ["word"]
 a0:gQ K mg "checked_track" io ["track", "many"]
 a1:HU K mg "places_in_order" bL ["wagons"] Z.aS Z.aT
 a2:Qa K "places_in_order"=!(Z.aS,Z.aT)
 a3:gQ K mg "leave_so" oW ["coming", "blind", "many", "moves", "wanted"]
 a4:gQ K mg "are_places" gR ["places", "train"]
 a5:gQ K mg "are_rising_places" b6 ["places", "train"]
 a6:gQ K mg "are_falling_wagons" bM ["places", "train"]
 a7:gQ K mg "is_shown" oX ["one", "other", "shower", "train"]
 a8:gQ K mg "forest_at_odds" ge ["wagons", "leaving"]
 a9:gQ K mg "shunted_blind" iz ["leaving", "tracks", "many"]
 bA:gQ K mg "last_lesser" kx ["leaving"]
 bB:gQ K mg "two_blind" fu ["train"]
 bC:gQ K mg "fewest" tq ["train"]
 bD:gQ K mg "tracks_through" gg ["wagons"]
 bE:gQ K mg "first_of_a_lesser" dY ["falling", "wagon"]
 bF:gQ K mg "moves_through" cq ["wagons", "tracks"]
 bG:gQ K mg "falling_to" lL ["tracks", "track"]
 bH:gQ K mg "_law_inserted" dO ["_law_script"]
 bI:gQ K mg "_law_made" fv ["_law_script", "_law_blind", "_law_many"]
 bJ:gQ K mg "_law_spoiled" i0 ["_law_train", "_law_script"]
 bK:gQ K mg "_law_brought" eV ["_law_train", "_law_blind", "_law_many", "_law_moves"]
 bN:gQ K mg "_law_rising" kB ["_law_places", "_law_many"]
 bO:gQ K mg "_law_at_odds" i4 ["_law_train", "_law_one", "_law_other", "_law_shown"]
 bP:gQ K mg "_law_odd" kZ ["_law_train", "_law_places", "_law_shown"]
 bQ:gQ K mg "_law_falling" eW ["_law_train", "_law_places"]
 bR:gQ K mg "_law_says" ny ["_law_said", "_law_due"]
 bS:gQ K mg "_law_bent" nB ["_law_some", "_law_script"]
 bT:gQ K mg "_law_moves_by_hand" dj ["_law_train", "_law_moves"]
 bU:gQ K mg "_law_numbered" cr ["_law_train"]
 bV:gQ K mg "_law_places_by_hand" cR ["_law_train", "_law_places", "_law_moves"]
 bW:gQ K mg "_law_threes_by_hand" cS ["_law_train", "_law_order", "_law_places"]
 bX:gQ K mg "_law_odds_by_hand" dZ ["_law_train", "_law_script"]
 bY:gQ K mg "_law_far_odds_right" aL ["_law_train", "_law_script"]
 bZ:mg "YardError"=!.ref Z.aA
 b0:mg "BadMoves"=!.ref Z.aC
 b1:mg "Stuck"=!.ref Z.aD
 b2:mg "Track"=!.ref Z.aE
 b3:nt K Z.aE
 b4:aF K Z.aE "blind"
 b5:aF K Z.aE "came"
 b7:aF K Z.aE "gone_ahead"
 b8:mg "Yard"=!.ref Z.aF
 cA:nt K Z.aF
 cB:aF K Z.aF "blind"
 cC:aF K Z.aF "come"
 cD:aF K Z.aF "left"
 cE:aF K Z.aF "tracks"
 cF:aF K Z.aF "wagons"
 cG:mg "Shunted"=!.ref Z.aH
 cH:nt K Z.aH
 cJ:Cb K Z.aH
 cK:aF K Z.aH "moves"
 cL:mg "Three"=!.ref Z.aI
 cM:nt K Z.aI
 cN:aF K Z.aI "first"
 cO:aF K Z.aI "second"
 cP:aF K Z.aI "third"
 cQ:mg "Odd"=!.ref Z.aJ
 cT:nt K Z.aJ
 cU:Cb K Z.aJ
 cV:aF K Z.aJ "places"
 cW:aF K Z.aJ "shown"
 cX:mg "Falling"=!.ref Z.aK
 cY:nt K Z.aK
 cZ:aF K Z.aK "places"
 c0:mg "Fewest"=!.ref Z.aL
 c1:nt K Z.aL
 c2:aF K Z.aL "moves"
 c3:aF K Z.aL "places"
 c4:mg "Given"=!.ref Z.aM
 c5:nt K Z.aM
 c6:aF K Z.aM "moves"
 c7:mg "Thrice"=!.ref Z.aN
 c8:nt K Z.aN
 c9:aF K Z.aN "first"
 dA:aF K Z.aN "second"
 dB:aF K Z.aN "third"
 dC:mg "Forest"=!.ref Z.aO
 dD:nt K Z.aO
 dE:aF K Z.aO "depths"
 dF:aF K Z.aO "neighbours"
 dG:aF K Z.aO "parents"
 dH:mg "Groups"=!.ref Z.aP
 dI:nt K Z.aP
 dK:aF K Z.aP "neighbours"
 dP:aF K Z.aP "pairs"
 dQ:aF K Z.aP "wagons"
 dR:mg "Shunting"=!.ref Z.aQ
 dS:nt K Z.aQ
 dT:aF K Z.aQ "gone"
 dU:aF K Z.aQ "leaving"
 dV:aF K Z.aQ "moves"
 dW:aF K Z.aQ "stacks"
 dX:aF K Z.aQ "tracks"
 d0:HS K Z.aD "Stuck.__init__" lH ["self", "at"]
 d1:vZ K Z.aE "Track.__init__" lI ["self", "blind"]
 d2:nu K Z.aE "is_empty" "Track.is_empty" f8 ["self"]
 d3:nu K Z.aE "let_in" "Track.let_in" iU ["self", "wagon"]
 d4:nu K Z.aE "let_out" "Track.let_out" iq ["self"]
 d5:vZ K Z.aF "Yard.__init__" nw ["self", "wagons", "blind"]
 d6:nu K Z.aF "carry_out" "Yard.carry_out" gb ["self", "steps"]
 d7:nu K Z.aF "carry_in" "Yard.carry_in" ir ["self", "at", "place"]
 d8:nu K Z.aF "carry_away" "Yard.carry_away" fo ["self", "at", "place"]
 d9:vZ K Z.aH "Shunted.__init__" iV ["self", "moves"]
 eA:nu K Z.aH "shows" "Shunted.shows" iu ["self", "train", "blind", "many"]
 eB:vZ K Z.aI "Three.__init__" lJ ["self", "first", "second", "third"]
 eC:nu K Z.aI "shows" "Three.shows" ki ["self", "train"]
 eD:vZ K Z.aJ "Odd.__init__" oY ["self", "places", "shown"]
 eE:nu K Z.aJ "shows" "Odd.shows" iW ["self", "train"]
 eF:vZ K Z.aK "Falling.__init__" iX ["self", "places"]
 eG:nu K Z.aK "shows" "Falling.shows" iy ["self", "train", "many"]
 eH:vZ K Z.aL "Fewest.__init__" kj ["self", "moves", "places"]
 eI:nu K Z.aL "shows" "Fewest.shows" iY ["self", "train"]
 eJ:vZ K Z.aM "Given.__init__" lK ["self", "moves"]
 eK:nu K Z.aM "shows" "Given.shows" km ["self", "order"]
 eL:vZ K Z.aN "Thrice.__init__" ko ["self", "first", "second", "third"]
 eM:nu K Z.aN "shows" "Thrice.shows" iZ ["self", "order"]
 eN:vZ K Z.aO "Forest.__init__" kq ["self", "neighbours"]
 eO:nu K Z.aO "grow" "Forest.grow" kr ["self"]
 eP:nu K Z.aO "grow_from" "Forest.grow_from" eQ ["self", "root"]
 eT:nu K Z.aO "path" "Forest.path" ku ["self", "one", "other"]
 eX:vZ K Z.aP "Groups.__init__" fQ ["self", "wagons"]
 eY:nu K Z.aP "let_come" "Groups.let_come" ft ["self", "place"]
 eZ:nu K Z.aP "let_leave" "Groups.let_leave" eR ["self", "place"]
 e0:nu K Z.aP "greater" "Groups.greater" gc ["self", "one", "other"]
 e1:vZ K Z.aQ "Shunting.__init__" dN ["self", "leaving", "tracks", "many"]
 e2:nu K Z.aQ "let_all_come" "Shunting.let_all_come" cI ["self"]
 e3:nu K Z.aQ "let_those_leave_that_can" "Shunting.let_those_leave_that_can" bg ["self"]
 e4:nu K Z.aQ "is_done" "Shunting.is_done" eS ["self"]
 e5:nu K Z.aQ "covered" "Shunting.covered" eU ["self"]
 e6:nu K Z.aQ "cover" "Shunting.cover" gf ["self"]
 e7:PL K (.ref Z.aH) (.ref Z.aJ)=!5
 e8:Xc.XC K Z.aC
 e9:PySem.W.typeIn K (.ref Z.aC)=!.type "type"
 fA:Xc.XC K Z.aD
 fB:PySem.W.typeIn K (.ref Z.aD)=!.type "type"
 fC:X0 K Z.aC
 fD:PySem.W.mroIn K Z.aC (.ref Z.aC)=!6
 fE:PySem.W.takerIn K Z.aD "at"=!8
 fF:PySem.W.mroIn K Z.aD (.ref Z.aC)=!5
 fG:PySem.W.mroIn K Z.aD (.ref Z.aD)=!6
 fH:tj K Z.aA
 fI:mg "WORDS"=!.ref Z.aR/\∀H,b9 K H Z.aR [.str "in",.str "out"]
def mJ(K:PySem.W.Frag):Sp:=λvs H Q _=>∃(a:mu) (ns:7 3),vs=[.ref a]/\ak K H a (ns.map V.int)/\ns.length<=63/\uT K tu H/\∀b,Q (.bl 6) b
structure Cc where
 w:Je
 K:PySem.W.Frag
 mg:xD->Option n5
 base:Jz
 Z:Adr
def Cd(c:Cc):Prop:=∀(f:mu) (fd:Kz),Tx c.K c.mg c.Z->qe c.K "law" "law" lM f fd->cQ PySem.Challenge.rw_sidings_k08_answers_by_hand.prog c.w c.K c.mg c.base bu 11 f fd ["_law_script"] (mJ c.K)
def cne:Nonempty Cc:={{{λ_ _=>0,{ strHash:=λ_=>0,shareClass:=λ_=>0,mergeTok:=id,idOf:=λ_=>0,idOfShared:=λ_ _=>0,followText:=λ_=>5,idOfImm:=λ_=>0 }},[],λ_=>8,{},{0,0,0,0,0,0,0,0,0,0,0,0,0,0,0,0,0,0,0,0}}}
noncomputable def cc:Cc:=@Classical.epsilon Cc cne λc=>¬ Cd c
@[irreducible] noncomputable def P:IY:=PySem.Challenge.rw_sidings_k08_answers_by_hand.prog
@[irreducible] noncomputable def w:Je:=cc.w
@[irreducible] noncomputable def K:PySem.W.Frag:=cc.K
@[irreducible] noncomputable def mg:xD->Option n5:=cc.mg
@[irreducible] noncomputable def base:Jz:=cc.base
@[irreducible] noncomputable def Z:Adr:=cc.Z
def Bn(x q:xD)(st:Jt)(ps:7 xD):Prop:=∀(kV a c:n5) (b:Option mu) (cdv ct:n5) (us:7 n5),us.length=ps.length->P6 (QC x q (cK st) (bK st) (ah st) .none kV a c b cdv ct) {us,[]}=pure (ps.zip us)
def zO{p:7 n5->Prop}{n:4}(h:∀a us,us.length=n->p (a::us)):∀us,us.length=n+1->p us
 | a::us,e=>h a us (Nat.succ.inj e)
def zP{p:7 n5->Prop}(h:p []):∀us,us.length=0->p us
 | [],_=>h
section
variable {K:PySem.W.Frag} {h:Jz} {mg:xD->Option n5} {x q:xD} {st:Jt} {ps:7 xD} {f C:mu} {oc kV doc pm cdv ct:n5} {od an:Option mu} {osl:Array (Option n5)}
def F9(X:K.In h)(G:h.Ns I0 mg){q}(e:q=x)(a:MV K I0 x=!!.ref f)(l:K.lookup f=some {oc,od,.func (QC x q (cK st) (bK st) (ah st) .none kV doc pm an cdv ct),osl})(c:OT K cdv q=6)(k:Mf K (.ref f)=6)(b:Bn x q st ps):gQ K mg x st ps:=by
 subst e;show {{_,_,eO l c k,mg_of X G a,(eO l c k).binds b}}
def Ga(a:PySem.W.findIn K (.ref C) x=!!.ref f)(i:isFn K (.ref f)=6)(l:K.lookup f=some {oc,od,.func (QC x q (cK st) (bK st) (ah st) .none kV doc pm an cdv ct),osl})(c:OT K cdv q=6)(k:Mf K (.ref f)=6)(b:Bn x q st ps):nu K C x q st ps:={{_,_,eO l c k,⟨a,i,k⟩,(eO l c k).binds b}}
def Gb {x} (e:x = "__init__") (a:PySem.W.findIn K (.ref C) "__init__"=!!.ref f) (m:PySem.W.makesIn K C=6) (i:isFn K (.ref f)=6) (d:Mf K (.ref C)=6) (l:K.lookup f=some {oc,od,.func (QC x q (cK st) (bK st) (ah st) .none kV doc pm an cdv ct),osl}) (c:OT K cdv q=6) (k:Mf K (.ref f)=6) (b:Bn x q st ps):vZ K C q st ps:=by
 subst e;show {{_,_,eO l c k,⟨m,a,i,d⟩,(eO l c k).binds b}}
def Gc {x} (e:x = "__init__") (a:((PySem.W.clsIn K C).bind λd=>MV K d.ns "__init__")=!!.ref f) (m:Ev K C=6) (i:isFn K (.ref f)=6) (j:Mf K (.ref C)=6) (l:K.lookup f=some {oc,od,.func (QC x q (cK st) (bK st) (ah st) .none kV doc pm an cdv ct),osl}) (c:OT K cdv q=6) (k:Mf K (.ref f)=6) (b:Bn x q st ps):HS K C q st ps:=by
 subst e;show {{_,_,eO l c k,⟨m,a,i,j⟩,(eO l c k).binds b}}
def Ge{x:xD}{c P:mu}(X:K.In h)(G:h.Ns I0 mg){q}(e:q=x)(a:MV K I0 x=!!.ref f)(l:K.lookup f=some {oc,od,.func (QC x q (cK st) (bK st) (ah st) .none kV doc pm an cdv ct),osl})(cc:OT K cdv q=6)(k:Mf K (.ref f)=6)(b:Bn x q st ps)(d:cdv=.ref c)(i:PySem.W.codeHdIn K c P=6):HU K mg x st ps c P:=by
 subst e;show {{_,_,eO l cc k,mg_of X G a,(eO l cc k).binds b,d},i}
def Gf {g:mu} {n:4} {b c:Tok} (X:K.In h) (G:h.Ns I0 mg) (a:MV K I0 "WORDS"=!!.ref g) (l:K.lookup g=some {.type "tuple",od,.seq #[.str "in" b,.str "out" c] n,osl}):mg "WORDS"=!.ref g/\∀H,b9 K H g [.str "in",.str "out"]:=⟨mg_of X G a,λH=>.inr ⟨_,_,_,l,9,9,(by show 2<=sizeLine;decide),.cons {_,9} (.cons {_,9} (.nil))⟩⟩
end
abbrev HV(l:PySem.W.OpenLaw):Prop:=∀{w:Je} {K:PySem.W.Frag} {mg:xD->Option n5} {base:Jz} {Z:Adr} {f:mu} {fd:Kz},Tx K mg Z->qe K "law" "law" lM f fd->cQ l.prog w K mg base bu 11 f fd ["_law_script"] (mJ K)
def Ew {l:PySem.W.OpenLaw} {w:Je} {K:PySem.W.Frag} {h:Jz} {mg:xD->Option n5} {j f:mu} {p kV b q cdv ct:n5} {od n:Option mu} {i:Array (Option n5)} {Z:Adr} (ok:HV l) (X:K.In h) (G:h.Ns I0 mg) (d:mg "law"=!.ref j)
  (a:MV K I0 "law"=!!.ref f) (o:K.lookup f=some {p,od,.func (QC "law" "law" (cK lM) (bK lM) (ah lM) .none kV b q n cdv ct),i}) (c:OT K cdv "law"=6) (k:Mf K (.ref f)=6)
  (B:MV K I0 "YardError"=!!.ref Z.aA) (C:MV K I0 "BadTrain"=!!.ref Z.aB) (z2:MV K I0 "BadMoves"=!!.ref Z.aC) (D:MV K I0 "Stuck"=!!.ref Z.aD) (E:MV K I0 "Track"=!!.ref Z.aE) (H:MV K I0 "Yard"=!!.ref Z.aF) (I:MV K I0 "Answer"=!!.ref Z.aG) (M:MV K I0 "Shunted"=!!.ref Z.aH) (N:MV K I0 "Three"=!!.ref Z.aI) (O:MV K I0 "Odd"=!!.ref Z.aJ) (r:MV K I0 "Falling"=!!.ref Z.aK) (t:MV K I0 "Fewest"=!!.ref Z.aL) (u:MV K I0 "Given"=!!.ref Z.aM) (x:MV K I0 "Thrice"=!!.ref Z.aN) (y:MV K I0 "Forest"=!!.ref Z.aO) (z:MV K I0 "Groups"=!!.ref Z.aP) (A:MV K I0 "Shunting"=!!.ref Z.aQ) (Q:Qa K "places_in_order"=!(Z.aS,Z.aT)) (T:Tx K mg Z):∃fd:Kz,(∀(s:pe) (v:n5),P5 s fd {[v],[]} [("_law_script",v)])/\∀base:Jz,K.In base->base.Ns I0 mg->cQ l.prog w K mg base bu 11 j fd ["_law_script"] (mJ K):=by
 have e:=d.symm.trans (mg_of X G a);cases e;show {_,λs v=>.of_eq 9,λbase _ _=>ok T (eO o c k)}
def HW{l:PySem.W.OpenLaw}{q:IY}{loose:7 xD}{XP:(xD->Option n5)->Jz->Prop}{YP:Je->Jz->Prop}{d:DefRec}{K:PB->PySem.W.Frag}(A:l.most=!63)(b:d.params.defaults=[])
  (v:∀(w:Je) (h:Jz),YP w h->(K w.params).In h)
  (o:∀e∈tu,∃d',(PyProof.Rows.recsOf q).find? (λr=>r.name==e.1)=!d') (j:∀(w:Je),∀e∈tu,∀c P,Qa (K w.params) e.1=!(c,P)->(K w.params).lookup P=8)
  (F:∀(w:Je) (mg:xD->Option n5) (i:mu) (h:Jz),(K w.params).In h->h.Ns I0 mg->mg d.name=!.ref i->
   ∃fd:Kz,(∀(s:pe) (u:n5),P5 s fd {[u],[]} [("_law_script",u)])/\∀base:Jz,(K w.params).In base->base.Ns I0 mg->cQ l.prog w (K w.params) mg base bu 11 i fd ["_law_script"] (mJ (K w.params))):
  PySem.W.WalkO q loose XP YP l.row.toRowW d [] (λf vs=>PySem.call f vs):=
 L2.zN (n:=63) (k:=11) (x := "_law_script") (CX:=λ_=>bu) (sp:=λw=>mJ (K w.params)) tu A (by decide) b ⟨9,by decide,by decide⟩ v o j F (λ_ _ a ns y t p=>{a,ns,9,p,y,t,λ_=>rfl}) λ_ _ _ _ _ z=>z
def zQ {K:PySem.W.Frag} {i b:mu} (d:Qa K "places_in_order"=!(i,b)) (f:K.lookup b=8):∀e∈tu,∀c P,Qa K e.1=!(c,P)->K.lookup P=8:=by
 intro e a c P h;simp only[tu,Jb,MW,or_false]at a;let 9:=a
 ·rw[d]at h;cases h;show f
end My
section
open PySem PySem.W PyProof.Rows
local macro_rules | `(tactic| o_head $H) => `(tactic| (
 show holds_open (q:=My.F3) (loose:=[]) (Xt:=λs=>xlAt My.F3 [] s&&recOk (RowW.records _) s) (XP:=XL My.F3 []) (Yf:=Hook.obs $H) (Ya:=Hook.val $H) (YP:=Hook.says $H) (N:=20000)
  (L2.uQ (p:=PySem.Challenge.pw_sidings_k08_answers_by_hand) (H₀:=boot_heap) (T₀:=λP=>L2.uR (boot_heap P).objs.toList) (life:=(boot_heap (aWorld 1).params).life) (d₀:=boot_drawn) (k₀:=boot_toks) (m₀:=11) (ann:=!.ref 06) (boot_open (by kernel_rfl!) (by decide) (λs=>by kernel_rfl!)) (λP=>by kernel_rfl!) (λw=>by kernel_rfl!) My.Eo My.Ep ?obs)
  (Hook.of $H) (Hook.keeps $H) (λs e=>xl_of s (OU.mp e).1) XL.keeps (by rfl) (by rfl) (by rfl) (λs e=>recFacts_of (OU.mp e).2) (by rfl) (by first | assumption | decide +kernel) (by decide +kernel) ⟨9,9,9,9,9,by decide +kernel⟩ ?hw ?hc))
set_option maxRecDepth 100000 in
set_option maxHeartbeats 0 in
def My.early(ok:My.HV PySem.Challenge.rw_sidings_k08_answers_by_hand):PySem.Challenge.rw_sidings_k08_answers_by_hand.Holds:=by
 w_on;show PySem.W.holds_law My.F7 λF7=>?_;k_head
 (case obs=>
  intro w os
  rewrite [PySem.W.Fast.te10156331382660048174,PySem.W.Fast.te11892475500146522536,PySem.W.Fast.te14364793385576792824]
  kernel_rfl)
 (case hw=>w_witness2)
 k_fill
 show My.HW (l:=PySem.Challenge.rw_sidings_k08_answers_by_hand) 9 9 (λw h Y=>by first | show PySem.W.km_in_of Y | show PySem.W.kIn_of Y) ?hL ?hK ?F
 case hL=>
  intro e q;simp only[My.tu,Jb,MW,or_false]at q;let 9:=q<;>show {_,9}
 case hK=>
  intro w;refine' My.zQ ?a0 ?b0
  (case a0=>first | k_is | kernel_rfl! | show 9)
  (case b0=>first | k_is | kernel_rfl! | show 9)
 case F=>
  intro w mg s h j G n;refine' My.Ew (Z:={_,_,_,_,_,_,_,_,_,_,_,_,_,_,_,_,_,_,_,_}) ok j G n ?a ?l ?c ?k ?z0 ?z1 ?z2 ?z3 ?z4 ?z5 ?z6 ?z7 ?z8 ?z9 ?z10 ?z11 ?z12 ?z13 ?z14 ?z15 ?z16 ?zt ?T
  (case a | l | c | k | z0 | z1 | z2 | z3 | z4 | z5 | z6 | z7 | z8 | z9 | z10 | z11 | z12 | z13 | z14 | z15 | z16 | zt=>first | k_is | kernel_rfl! | show 9)
  (case T=>
   constructor
   any_goals ((refine' My.Gf j G ?a ?l;(case a=>first | k_is | kernel_rfl! | show 9);(case l=>first | k_is | kernel_rfl! | show 9)))
   any_goals (show PySem.W.mg_none_of j G (by first | k_is | kernel_rfl! | show 9))
   any_goals (show mg_of j G (by first | k_is | kernel_rfl! | show 9))
   any_goals ((refine' My.F9 j G ?e ?a ?l ?c ?k ?b;(case e=>rfl);(case a=>first | k_is | kernel_rfl! | show 9);(case l=>first | k_is | kernel_rfl! | show 9);(case c=>first | k_is | kernel_rfl! | show 9);(case k=>first | k_is | kernel_rfl! | show 9);(case b=>(intro _ _ _ _ _ _;(repeat show My.zO λ_=>?_);show My.zP 9))))
   any_goals ((refine' My.Ga ?a ?i ?l ?c ?k ?b;(case a=>first | k_is | kernel_rfl! | show 9);(case i=>first | k_is | kernel_rfl! | show 9);(case l=>first | k_is | kernel_rfl! | show 9);(case c=>first | k_is | kernel_rfl! | show 9);(case k=>first | k_is | kernel_rfl! | show 9);(case b=>(intro _ _ _ _ _ _;(repeat show My.zO λ_=>?_);show My.zP 9))))
   any_goals ((refine' My.Gb ?e ?a ?m ?i ?kc ?l ?c ?k ?b;(case e=>rfl);(case a=>first | k_is | kernel_rfl! | show 9);(case m=>first | k_is | kernel_rfl! | show 9);(case i=>first | k_is | kernel_rfl! | show 9);(case kc=>first | k_is | kernel_rfl! | show 9);(case l=>first | k_is | kernel_rfl! | show 9);(case c=>first | k_is | kernel_rfl! | show 9);(case k=>first | k_is | kernel_rfl! | show 9);(case b=>(intro _ _ _ _ _ _;(repeat show My.zO λ_=>?_);show My.zP 9))))
   any_goals ((refine' My.Gc ?e ?a ?m ?i ?kc ?l ?c ?k ?b;(case e=>rfl);(case a=>first | k_is | kernel_rfl! | show 9);(case m=>first | k_is | kernel_rfl! | show 9);(case i=>first | k_is | kernel_rfl! | show 9);(case kc=>first | k_is | kernel_rfl! | show 9);(case l=>first | k_is | kernel_rfl! | show 9);(case c=>first | k_is | kernel_rfl! | show 9);(case k=>first | k_is | kernel_rfl! | show 9);(case b=>(intro _ _ _ _ _ _;(repeat show My.zO λ_=>?_);show My.zP 9))))
   any_goals ((refine' My.Ge j G ?e ?a ?l ?cc ?k ?b ?ec ?hd;(case e=>rfl);(case a=>first | k_is | kernel_rfl! | show 9);(case l=>first | k_is | kernel_rfl! | show 9);(case cc=>first | k_is | kernel_rfl! | show 9);(case k=>first | k_is | kernel_rfl! | show 9);(case b=>(intro _ _ _ _ _ _;(repeat show My.zO λ_=>?_);show My.zP 9));(case ec=>first | show 9 | k_is);(case hd=>first | k_is | kernel_rfl! | show 9)))
   any_goals ((constructor<;>(first | k_is | kernel_rfl! | show 9)))
   all_goals ((first | k_is | kernel_rfl! | show 9)))
end
namespace L2
open PySem PySem.Spec PyProof.Rows
def yr(i:3)(t:Tok):qw (.inl i) (.int i t)=6:=by simp[qw,Value.isInt]
def yt(x:xD)(t:Tok):qw (.inr x) (.str x t)=6:=by simp[qw,Value.isStrOf]
def tw(prog:IY)(w:Je)(i:3)(t:Tok):(bJ prog w).is (.inl i) (.int i t)=6:=yr i t
def tD(prog:IY)(w:Je)(x:xD)(t:Tok):(bJ prog w).is (.inr x) (.str x t)=6:=yt x t
def az.length{xs:7 V}{us:7 n5}(r:az xs us):xs.length=us.length:=Paired.length r
def az.get:∀{xs:7 V} {us:7 n5} {i:4} {x:V},az xs us->xs[i]?=!x->∃u,us[i]?=!u/\aE x u
 | _,_,_,_,.nil,e=>by simp at e
 | _,_,0,_,.cons r _,e=>by simp at e;subst e;show {_,9,r}
 | _,_,i+1,x,.cons _ t,e=>by
  let(u,a,b):=az.get (i:=i) (x:=x) t (by simpa using e);show ⟨u,by simpa using a,b⟩
def az.set{x:V}{u:n5}(r:aE x u):∀{xs:7 V} {us:7 n5} (i:4),az xs us->az (xs.set i x) (us.set i u)
 | _,_,_,.nil=>.nil
 | _,_,0,.cons _ t=>.cons r t
 | _,_,i+1,.cons q t=>.cons q (az.set r i t)
def az.append:∀{xs ys:7 V} {us a:7 n5},az xs us->az ys a->az (xs++ys) (us++a)
 | _,_,_,_,.nil,s=>s
 | _,_,_,_,.cons r t,s=>.cons r (az.append t s)
def az.take:∀{xs:7 V} {us:7 n5} (n:4),az xs us->az (xs.take n) (us.take n)
 | _,_,0,_=>.nil
 | _,_,_+1,.nil=>.nil
 | _,_,n+1,.cons r t=>.cons r (az.take n t)
def az.drop:∀{xs:7 V} {us:7 n5} (n:4),az xs us->az (xs.drop n) (us.drop n)
 | _,_,0,r=>r
 | _,_,_+1,.nil=>.nil
 | _,_,n+1,.cons _ t=>az.drop n t
def upd(H:Hp)(a:mu)(o:HO):Hp:=λb=>if b=a then some o else H b
def aa{H:Hp}{a:mu}{o:HO}:upd H a o a=!o:=by unfold upd;rw[if_pos 9]
def af{H:Hp}{a b:mu}{o:HO}(h:b≠a):upd H a o b=H b:=by unfold upd;rw[if_neg h]
def wa{H:Hp}{a:mu}{o u:HO}:upd (upd H a o) a u=upd H a u:=by
 funext b;unfold upd;split<;>rfl
def bh{H:Hp}{a b:mu}{o u:HO}(h:H a=!o)(h':H b=!u)(d:o≠u):a≠b:=by
 intro e;subst e;rw[h]at h';show d (vb h')
def ae{H:Hp}{a b:mu}{o:HO}(h:H a=!o)(h':H b=8):a≠b:=by
 intro e;subst e;rw[h]at h';cases h'
section
variable {P:IY} {w:Je} {H H':Hp} {h h':Jz} {a:mu} {o:HO}
def aS.lt(x:aS P w H h a o):a<h.objs.size:=by
 cases o with
 | lst xs=>let(_,_,_,_,e):=x;show xE e
 | tup xs=>let(_,_,_,p):=x;show p.lt
 | dK b=>let(_,_,_,_,o,_,_,e,_):=x;show xE e
 | dT b=>let(_,_,_,_,o,_,_,e,_):=x;show xE e
 | set S n=>let(o,_,_,_,e,_):=x;show xE e
 | ins C i fs=>let(_,_,_,e,_):=x;show xE e
 | own y=>let(_,e):=x;show xE e
 | xd fs=>let(_,(_,_,_,e,_),_):=x;show xE e
 | rng lo hi=>let(_,_,_,e):=x;show xE e
 | frz j u=>let(e,_):=x;show xE e
 | tbl pl q=>let(_,e,_):=x;show xE e
 | met f y=>show xE (show h.get? a=some _ from x)
 | ext s=>let(_,(_,e),_):=x;show xE e
def Paired.mapP{i j:Type}{F G:i->j->Prop}:∀{e:7 i} {l₂:7 j},Paired F e l₂->(∀a b,F a b->G a b)->Paired G e l₂
 | _,_,.nil,_=>.nil
 | _,_,.cons r t,f=>.cons (f _ _ r) (Paired.mapP t f)
def aS.stay(x:aS P w H h a o)(k:∀b u,(b=a\/H b=!.own a)->h.get? b=!u->h'.get? b=!u)
  (U:∀b,H b=!.own a->H' b=!.own a) (ht:∀b xs,H b=!.tup xs->H' b=!.tup xs) (T:∀b i u,H b=!.frz i u->H' b=!.frz i u):aS P w H' h' a o:=by
 induction o with
 | lst xs=>let(z,its,n,r,e):=x;show {z,its,n,r,k _ _ (.inl 9) e}
 | tup xs=>let(z,its,r,i,e,c):=x;show {z,its,r,i,k _ _ (.inl 9) e,c}
 | dK E=>let(z,y,vs,r,i,s,j,e,c):=x;show {z,y,vs,r,i,s,j,k _ _ (.inl 9) e,c}
 | dT E=>
  let(z,y,xs,r,i,s,j,e,c):=x;show {z,y,xs,Paired.mapP r λp q z=>{z.1,ht _ _ z.2.1,z.2.2},i,s,j,k _ _ (.inl 9) e,c}
 | set S n=>let(i,s,j,t,e,c):=x;show {i,s,j,t,k _ _ (.inl 9) e,c}
 | ins C dx fs=>
  let(d,z,ne,e,I,(od,s,j,B,c),r):=x;show {U _ d,z,ne,k _ _ (.inl 9) e,I,{od,s,j,k _ _ (.inr d) B,c},r}
 | own y=>let(i,e):=x;show {i,k _ _ (.inl 9) e}
 | xd fs=>let(I,(od,s,j,e,c),r):=x;show {I,{od,s,j,k _ _ (.inl 9) e,c},r}
 | rng lo hi=>let(t,u,v,e):=x;show {t,u,v,k _ _ (.inl 9) e}
 | frz i u ih=>let(e,q):=x;show {k _ _ (.inl 9) e,ih q}
 | tbl pl q=>
  let(ps,e,tr,hc):=x;show {ps,k a _ (.inl 9) e,tr,λM D=>?_};let(c,oc,vs,t,O,B,Q):=hc M D;show {c,oc,vs,t,O,T _ _ _ B,Q}
 | met f y=>
  have e:h.get? a=!PySem.W.methodObj (.ref f) (.ref y):=x;show h'.get? a=!PySem.W.methodObj (.ref f) (.ref y);show k a _ (.inl 9) e
 | ext φ=>let(p,(o,e),st):=x;show {st _ _ p λo q=>k _ _ (.inl 9) q,{o,k _ _ (.inl 9) e},st}
def iP.lt(x:iP P w H h)(e:H a=!o):a<h.objs.size:=(x a o e).lt
def iP.fresh(x:iP P w H h)(e:h.objs.size<=a):H a=8:=by
 cases q:H a with
 | none=>rfl
 | some u=>show absurd (ti (x.lt q) e) (Kw _)
def iP.kept(x:iP P w H h)(k:∀b u,h.get? b=!u->h'.get? b=!u):iP P w H h':=λa o e=>
 (x a o e).stay (λb u _ q=>k b u q) (λ_ q=>q) (λ_ _ q=>q) λ_ _ _ q=>q
def iP.laid(x:iP P w H h)(k:∀b u,h.get? b=!u->h'.get? b=!u)(hp:h.objs.size<=a)(new:aS P w (upd H a o) h' a o):iP P w (upd H a o) h':=λb u e=>by
 have i:=x.fresh hp
 by_cases j:b=a
 ·subst j;rw[aa]at e;cases e;show new
 ·rw[af j]at e
  show (x b u e).stay (λc v _ q=>k c v q) (λc q=>by rw[af (ae q i)];show q) (λc xs q=>by rw[af (ae q i)];show q) λc n y q=>by rw[af (ae q i)];show q
end
def Rd.ok{P:IY}{w:Je}{H:Hp}{h:Jz}{a:mu}{u:HO}(r:Rd H a u)(x:iP P w H h):aS P w H h a u:=by
 let r||(o,r):=r
 ·show x a u r
 ·let(_,q):=x a _ r
  show q
def Gg:Option HO->Prop
 | some (.lst _)=>True
 | some (.dK _)=>True
 | some (.dT _)=>True
 | some (.set _ _)=>True
 | some (.ins _ _ _)=>True
 | some (.ext _)=>True
 | _=>False
section
variable {P:IY} {w:Je} {H:Hp} {h h':Jz} {x e:mu} {o':HO}
def iP.write(ok:iP P w H h)(j:Gg (H x))(D:e=x\/H e=!.own x)(k:∀b u,b≠e->h.get? b=!u->h'.get? b=!u)(C:∃u,h'.get? e=!u)
  (new:aS P w (upd H x o') h' x o'):iP P w (upd H x o') h':=λb u q=>by
 have i:∀c y,H c=!.own y->c≠x:=λc y r z=>by subst z;rw[r]at j;show j
 have s:∀c xs,H c=!.tup xs->c≠x:=λc xs r z=>by subst z;rw[r]at j;show j
 have n:∀c B y,H c=!.frz B y->c≠x:=λc B y r z=>by subst z;rw[r]at j;show j
 by_cases t:b=x
 ·subst t;rw[aa]at q;cases q;show new
 ·rw[af t]at q
  by_cases a:b=e
  ·have E:H b=!.own x:=by
    let z||z:=D
    ·show absurd (a.trans z) t
    ·rw[a];show z
   rw[q]at E;cases E;let(v,I):=C;show ⟨v,by rw[a];show I⟩
  ·show (ok b u q).stay (λc v hc r=>k c v ?_ r) (λc r=>by rw[af (i c b r)];show r) (λc xs r=>by rw[af (s c xs r)];show r) λc B y r=>by rw[af (n c B y r)];show r
   let 9||hc:=hc
   ·show a
   ·rintro rfl
    let z||z:=D
    ·show i c b hc z
    ·rw[hc]at z;cases z;show t 9
end
section
variable {fs fs' ex ex':7 mu} {H H1 H2:Hp} {h h1 h2 h':Jz} {a x e:mu} {o:HO}
def Un.any(u:Un fs ex H H1 h h1){b:mu}{i:Ky}(q:h.get? b=!i)(n:H b=8)(s:b∉ex):∃sl,h1.get? b=some { i with slots:=sl }:=by
 by_cases j:b∈fs
 ·show u.slot b i q n j s
 ·show {i.slots,u.keep b i q n j s}
def Un.kept(k:∀b u,h.get? b=!u->h'.get? b=!u):Un fs ex H H h h':=
 {λb i q _ _ _=>k b i q,λb i q _ _ _=>{i.slots,k b i q},λ_ _ _ n _=>n,λb i q _=>{i,k b i q},λ_ _ q=>q,λ_ _ _ q=>q,λ_ _ _ q=>q}
def Un.refl:Un fs ex H H h h:=Un.kept λ_ _ q=>q
def Un.laid(k:∀b u,h.get? b=!u->h'.get? b=!u)(hp:h.objs.size<=a)(i:H a=8):Un fs ex H (upd H a o) h h' where
 keep:=λb u q _ _ _=>k b u q
 slot:=λb u q _ _ _=>{u.slots,k b u q}
 free:=λb u q n _=>by rw[af (vu (ti (xE q) hp))];show n
 there:=λb u q _=>{u,k b u q}
 tups:=λb xs q=>by rw[af (ae q i)];show q
 frzs:=λb u xs q=>by rw[af (ae q i)];show q
 tbls:=λb pl y q=>by rw[af (ae q i)];show q
def Un.write(j:Gg (H x))(C:e=x\/H e=!.own x)(k:∀b u,b≠e->h.get? b=!u->h'.get? b=!u)(s:∃u,h'.get? e=!u):Un fs ex H (upd H x o) h h':=by
 have B:∀b,H b=8->b≠x:=λb n z=>by subst z;rw[n]at j;show j
 have v:∀b,H b=8->b≠e:=λb n z=>by
  subst z;let r||r:=C
  ·show B b n r
  ·rw[n]at r;cases r
 have t:∀b u,H b=!u->¬ Gg (!u)->b≠x:=λb u q nm z=>by subst z;rw[q]at j;show nm j
 show ⟨λb u q n _ _=>k b u (v b n) q,λb u q n _ _=>{u.slots,k b u (v b n) q},λb u q n _=>by rw[af (B b n)];show n,λb u q _=>?_,
  λb xs q=>by rw[af (t b _ q λz=>z)];show q,λb u xs q=>by rw[af (t b _ q λz=>z)];show q,λb pl y q=>by rw[af (t b _ q λz=>z)];show q⟩
 by_cases i:b=e
 ·subst i;show s
 ·show {u,k b u i q}
end
structure Cx where
 prog:IY
 w:Je
 K:PySem.W.Frag
 mg:xD->Option n5
 base:Jz
 A:Jq
 N:7 xD
 s₀:pe
 H₀:Hp
 env:N5
 outer:7 N5
 stack:7 N5
 ex:7 mu
 fn:xD->Bool
 calm:Bool
 pn:7 (mu×Ky)
 xe:n5->pe->Prop
abbrev Cx.fs(X:Cx):7 mu:=oE X.outer
def HG(sc:JT)(x:xD):Prop:=sc.names.lookup x=!.local\/sc.names.lookup x=!.cell\/sc.names.lookup x=!.free
def Gh(sc:JT)(x:xD):Prop:=sc.names.lookup x=!.local\/sc.names.lookup x=!.cell
def HX(env:N5)(h:Jz)(m:xD->Option n5)(x:xD)(u:n5):Prop:=
 (env.kindOf x=!.local/\m x=!u)\/((env.kindOf x=!.cell\/env.kindOf x=!.free)/\∃c,env.cells.lookup x=!c/\h.IsCell c (!u))
structure Cx.Ok(X:Cx):Prop where
 mod:Mod X.K X.mg X.base
 kind:X.env.scope.kind=.function
 glob:X.env.globals=I0
 blt:X.env.builtins=MU
 above:↑X.s₀<=X.env.locals
 inj:∀x y c,X.env.cells.lookup x=!c->X.env.cells.lookup y=!c->x=y
 has:∀x,(X.env.kindOf x=!.cell\/X.env.kindOf x=!.free)->∃c,X.env.cells.lookup x=!c
 cab:∀x c,X.fn x=6->X.env.cells.lookup x=!c->↑X.s₀<=c
 hd:X.calm=6->X.A.handled=8
 frames:X.A.frames=!X.stack
 stk:X.stack=X.outer\/(X.stack=X.env::X.outer/\X.env.frame=!X.env.locals)
 exf:∀b∈X.ex,b≠X.env.locals/\∀x c,X.env.cells.lookup x=!c->c≠b
 bs:∀b o,X.base.get? b=!o->X.s₀.heap.get? b=!o/\X.H₀ b=8
 bsz:X.base.objs.size<=↑X.s₀
 noex:∀b o,X.base.get? b=!o->b∉X.ex
 exfs:∀b∈X.ex,b∉X.fs
 funs:X.s₀.heap.FunFrames X.base X.outer
 frf:∀b∈X.fs,X.H₀ b=8
structure ao(X:Cx)(pins:7 (mu×Ky))(σ:7 (Option V))(H:Hp)(s:pe):Prop where
 ok:X.Ok
 os:s.os=X.s₀.os
 bare:AllBare s.gens
 base:Un X.fs X.ex X.H₀ H X.s₀.heap s.heap
 loc:∃m,s.heap.Ns X.env.locals m/\∀(i:4) (x:xD) (v:V),X.N[i]?=!x->σ[i]?=!!v->HG X.env.scope x->∃u,aE v u/\HX X.env s.heap m x u
 cell:∀x c,X.env.cells.lookup x=!c->∃v,s.heap.IsCell c v
 free:H X.env.locals=8
 freeC:∀x c,X.env.cells.lookup x=!c->H c=8
 pin:∀p∈X.pn++pins,s.heap.get? p.1=!p.2/\H p.1=8/\p.1≠X.env.locals/\p.1∉X.fs/\∀v,p.2.data≠.cell v
 hok:iP X.prog X.w H s.heap
 len:σ.length=X.N.length
section
variable {X:Cx} {pins:7 (mu×Ky)} {σ:7 (Option V)} {H H':Hp} {s:pe} {h':Jz}
def Cx.Ok.nofr(ok:X.Ok){b:mu}{o:Ky}(e:X.base.get? b=!o):b∉X.fs:=λa=>by
 have:=(ok.funs.mem a).1;rw[e]at this;cases this
def ao.bs(I:ao X pins σ H s):∀b o,X.base.get? b=!o->s.heap.get? b=!o/\H b=8:=λb o e=>
 {I.base.keep b o (I.ok.bs b o e).1 (I.ok.bs b o e).2 (I.ok.nofr e) (I.ok.noex b o e),I.base.free b o (I.ok.bs b o e).1 (I.ok.bs b o e).2 (I.ok.noex b o e)}
def ao.bk(I:ao X pins σ H s):∀b o,X.base.get? b=!o->s.heap.get? b=!o:=λb o e=>(I.bs b o e).1
def ao.mod(I:ao X pins σ H s):Mod X.K X.mg X.base:=I.ok.mod
def ao.kIn(I:ao X pins σ H s):X.K.In s.heap:=I.ok.mod.kin.keeps I.bk
def ao.nolimit(I:ao X pins σ H s):s.heap.NoLimit:=I.ok.mod.nolimit.keeps I.bk
def ao.fr(I:ao X pins σ H s):∃m,Fr X.base X.env.locals s.heap m:=
 let ⟨m,a,_⟩:=I.loc
 {m,a,I.bk,xM I.ok.bsz I.ok.above}
def ao.lt(I:ao X pins σ H s):X.env.locals<↑s:=let ⟨_,a,_⟩:=I.loc;a.lt
def ao.sz(I:ao X pins σ H s):↑X.s₀<=↑s:=xM I.ok.above (Jh I.lt)
def ao.nofs(I:ao X pins σ H s){a:mu}(h:↑s<=a):a∉X.fs:=λb=>by
 let(_,o,e,_):=I.ok.funs.mem b;show absurd (ti (xE e) (xM I.sz h)) (Kw _)
def ao.cne(I:ao X pins σ H s):∀x c,X.env.cells.lookup x=!c->c≠X.env.locals:=λx c e z=>by
 let(v,o,j,i):=I.cell x c e;let(m,(t,q,n,b,a,_),_):=I.loc;rw[z,b]at j;cases j;rw[a]at i;cases i
def ao.funs(I:ao X pins σ H s):s.heap.FunFrames X.base X.outer:=by
 have all:∀(l:7 N5),(∀b∈oE l,b∈X.fs)->X.s₀.heap.FunFrames X.base l->s.heap.FunFrames X.base l:=by
  intro l
  induction l with
  | nil=>intro _ _;trivial
  | cons env r y=>
   intro hs t;let(q,(L,o,j,u,v,n),hr):=t;have a:L∈X.fs:=hs L (by unfold oE;rw[Mt,j];show vr);let(sl,e):=I.base.slot L o v (I.ok.frf L a) a λz=>I.ok.exfs L z a;show ⟨q,{L,_,j,u,e,n},y (λb i=>hs b (by unfold oE;rw[Mt,j];show wh _ i)) hr⟩
 show all X.outer (λ_ i=>i) I.ok.funs
def ao.stack(I:ao X pins σ H s):s.heap.FunFrames X.base X.stack:=by
 let e||(e,a):=I.ok.stk
 ·rw[e];show I.funs
 ·rw[e]
  let(m,b,_):=I.loc;show .cons (by rw[I.ok.kind];decide) a b ?_ I.funs;show Jy (xM I.ok.bsz I.ok.above)
def ao.stkSub(I:ao X pins σ H s):∀b∈oE X.stack,b∈X.env.locals::X.fs:=λb a=>by
 let e||(e,i):=I.ok.stk
 ·rw[e]at a;show wh _ a
 ·rw[e]at a
  unfold oE at a;rw[Mt,i]at a;show a
def ao.stkFree(I:ao X pins σ H s):∀b∈oE X.stack,H b=8:=λb hb=>by
 let e||hb:=Jb.mp (I.stkSub b hb)
 ·rw[e];show I.free
 ·let(_,o,a,_):=I.ok.funs.mem hb
  show I.base.free b o a (I.ok.frf b hb) λz=>I.ok.exfs b z hb
def ao.step{g':Array Ms}{t':4}{d':Drawn}{ch:7 mu}(I:ao X pins σ H s)
  (t:∀b∈ch,(b∈X.ex\/↑X.s₀<=b)/\b≠X.env.locals/\(∀x c,X.env.cells.lookup x=!c->c≠b)/\∀p∈X.pn++pins,p.1≠b)
  (keep:∀b o,b≠X.env.locals->b∉X.fs->b∉ch->s.heap.get? b=!o->H b=8->h'.get? b=!o)
  (D:∀b o,b≠X.env.locals->b∈X.fs->b∉ch->s.heap.get? b=!o->H b=8->∃sl,h'.get? b=some { o with slots:=sl }) (free:∀b o,b∉ch->s.heap.get? b=!o->H b=8->H' b=8)
  (there:∀b o,b∉ch->s.heap.get? b=!o->∃T,h'.get? b=!T)
  (tups:∀b xs,H b=!.tup xs->H' b=!.tup xs) (frzs:∀b o u,H b=!.frz o u->H' b=!.frz o u) (tbls:∀b pl q,H b=!.tbl pl q->H' b=!.tbl pl q)
  (ns:∀m,s.heap.Ns X.env.locals m->h'.Ns X.env.locals m) (hok:iP X.prog X.w H' h') (hg:AllBare g'):
  ao X pins σ H' { s with heap:=h',gens:=g',drawn:=d',toks:=t' }:=by
 have Q:∀b o,X.s₀.heap.get? b=!o->b≠X.env.locals:=λb o e=>vu (ti (xE e) I.ok.above);have C:∀b o,X.s₀.heap.get? b=!o->b∉X.ex->b∉ch:=λb o e a M=>by
  let z||z:=(t b M).1
  ·show a z
  ·show absurd (ti (xE e) z) (Kw _)
 have j:∀x c,X.env.cells.lookup x=!c->∀v,s.heap.IsCell c v->h'.IsCell c v:=λx c e v ⟨o,O,hd⟩=>by
  have B:c∉ch:=λz=>(t c z).2.2.1 x c e 9
  by_cases hc:c∈X.fs
  ·let(sl,q):=D c o (I.cne x c e) hc B O (I.freeC x c e)
   show {_,q,hd}
  ·show {o,keep c o (I.cne x c e) hc B O (I.freeC x c e),hd}
 show {I.ok,I.os,hg,{λb o e n M a=>?_,λb o e n M a=>?_,λb o e n a=>?_,λb o e a=>?_,λb xs e=>tups b xs (I.base.tups b xs e),λb o xs e=>frzs b o xs (I.base.frzs b o xs e),λb pl y e=>tbls b pl y (I.base.tbls b pl y e)},?_,λx c e=>?_,?_,λx c e=>?_,λp hp=>?_,hok,I.len}
 ·show keep b o (Q b o e) M (C b o e a) (I.base.keep b o e n M a) (I.base.free b o e n a)
 ·let(sl,E):=I.base.slot b o e n M a
  let(ab,U):=D b _ (Q b o e) M (C b o e a) E (I.base.free b o e n a);show ⟨ab,U⟩
 ·let(T,E):=I.base.there b o e a
  show free b T (C b o e a) E (I.base.free b o e n a)
 ·let(T,E):=I.base.there b o e a
  show there b T (C b o e a) E
 ·let(m,hn,hl):=I.loc
  show {m,ns m hn,λi x v E U e3=>?_};let(u,r,l):=hl i x v E U e3;show {u,r,?_};let l||(k,c,e,z):=l
  ·show .inl l
  ·show .inr {k,c,e,j x c e _ z}
 ·let(v,z):=I.cell x c e
  show {v,j x c e v z}
 ·let(m,(o,_,_,O,_),_):=I.loc
  show free _ o (λz=>(t _ z).2.1 9) O I.free
 ·let(v,o,O,hd):=I.cell x c e
  show free c o (λz=>(t c z).2.2.1 x c e 9) O (I.freeC x c e)
 ·let(e,n,ne,nf,d):=I.pin p hp
  have B:p.1∉ch:=λz=>(t p.1 z).2.2.2 p hp 9;show {keep p.1 p.2 ne nf B e n,free p.1 p.2 B e n,ne,nf,d}
def ao.un{t':4}(I:ao X pins σ H s)(u:Un X.fs [] H H' s.heap h')(t:iP X.prog X.w H' h'):ao X pins σ H' { s with heap:=h',toks:=t' }:=by
 let(m,(o,E,D,v,r),_):=id I.loc;let(sl,y):=u.any v I.free (by simp);show I.step (g':=s.gens) (d':=s.drawn) (ch:=[]) (λ_ z=>nomatch z) (λb o _ q _ e n=>u.keep b o e n q (by simp)) (λb o _ q _ e n=>u.slot b o e n q (by simp)) (λb o _ e n=>u.free b o e n (by simp)) (λb o _ e=>u.there b o e (by simp)) u.tups u.frzs u.tbls (λM B=>by
  let(O,j,i,a,C):=B;rw[v]at a;cases a;show {_,j,i,y,C}) t I.bare
def ao.call{g':Array Ms}{t':4}{d':Drawn}{ch:7 mu}(I:ao X pins σ H s)(u:Un (oE X.stack) ch H H' s.heap h')(v:iP X.prog X.w H' h')(C:AllBare g')
  (a:∀b∈ch,(b∈X.ex\/↑X.s₀<=b)/\b≠X.env.locals/\(∀x c,X.env.cells.lookup x=!c->c≠b)/\∀p∈X.pn++pins,p.1≠b):
  ao X pins σ H' { s with heap:=h',gens:=g',drawn:=d',toks:=t' }:=by
 let(m,(o,O,M,y,r),_):=id I.loc;let(sl,t):=u.any y I.free λz=>(a _ z).2.1 9;show I.step (ch:=ch) a (λb o t B hc e n=>u.keep b o e n (λz=>(Jb.mp (I.stkSub b z)).elim t B) hc) (λb o _ _ hc e n=>u.any e n hc) (λb o hc e n=>u.free b o e n hc) (λb o hc e=>u.there b o e hc) u.tups u.frzs u.tbls (λQ D=>by
  let(T,q,j,i,E):=D;rw[y]at i;cases i;show {_,q,j,t,E}) v C
def ao.turned{t':4}{it:mu}(I:ao X pins σ H s)(k:∀b o,b≠it->s.heap.get? b=!o->h'.get? b=!o)(M:H it=8)(i:it≠X.env.locals)
  (y:it∈X.ex\/↑X.s₀<=it) (B:∀x c,X.env.cells.lookup x=!c->c≠it) (C:∀p∈X.pn++pins,p.1≠it):ao X pins σ H { s with heap:=h',toks:=t' }:=by
 have a:∀b u,H b=!u->b≠it:=λb u e z=>by rw[z,M]at e;cases e
 show I.step (g':=s.gens) (d':=s.drawn) (ch:=[it]) (λb D=>?_) (λb o _ _ hc e _=>k b o (λz=>hc (by simp[z])) e) (λb o _ _ hc e _=>{o.slots,k b o (λz=>hc (by simp[z])) e}) (λ_ _ _ _ n=>n)
  (λb o hc e=>{o,k b o (λz=>hc (by simp[z])) e}) (λ_ _ e=>e) (λ_ _ _ e=>e) (λ_ _ _ e=>e) (λm E=>?_) (λb u e=>?_) I.bare
 ·have e:b=it:=by simpa using D
  subst e;show ⟨y,i,B,C⟩
 ·let(o,t,j,O,r):=E
  show {o,t,j,k _ o (JP i) O,r}
 ·show (I.hok b u e).stay (λc v hc q=>k c v ?_ q) (λ_ q=>q) (λ_ _ q=>q) λ_ _ _ q=>q
  let z||z:=hc
  ·rw[z];show a b u e
  ·show a c _ z
def ao.tok(I:ao X pins σ H s)(t:4):ao X pins σ H { s with toks:=t }:=I.un (h':=s.heap) (t':=t) Un.refl I.hok
def ao.kept{t':4}(I:ao X pins σ H s)(k:∀b u,s.heap.get? b=!u->h'.get? b=!u):ao X pins σ H { s with heap:=h',toks:=t' }:=I.un (Un.kept k) (I.hok.kept k)
def ao.laid{a:mu}{o:HO}{t':4}(I:ao X pins σ H s)(k:∀b u,s.heap.get? b=!u->h'.get? b=!u)(hp:↑s<=a)(new:aS X.prog X.w (upd H a o) h' a o):
  ao X pins σ (upd H a o) { s with heap:=h',toks:=t' }:=I.un (Un.laid k hp (I.hok.fresh hp)) (I.hok.laid k hp new)
def ao.write{x e:mu}{o:HO}{t':4}(I:ao X pins σ H s)(j:Gg (H x))(i:e=x\/H e=!.own x)(k:∀b u,b≠e->s.heap.get? b=!u->h'.get? b=!u)(a:∃u,h'.get? e=!u)
  (new:aS X.prog X.w (upd H x o) h' x o):ao X pins σ (upd H x o) { s with heap:=h',toks:=t' }:=I.un (Un.write j i k a) (I.hok.write j i k a new)
def ao.pins_of{a:7 (mu×Ky)}(I:ao X pins σ H s)(h:∀p∈a,s.heap.get? p.1=!p.2/\H p.1=8/\p.1≠X.env.locals/\p.1∉X.fs/\∀v,p.2.data≠.cell v):ao X a σ H s:=
 {I.ok,I.os,I.bare,I.base,I.loc,I.cell,I.free,I.freeC,λp hp=>(Jc.mp hp).elim (λz=>I.pin p (JD _ z)) (h p),I.hok,I.len}
def tE{N:7 xD}(e:N.Nodup){i j:4}{x:xD}(a:N[i]?=!x)(b:N[j]?=!x):i=j:=by
 let(f,c):=op.mp a;let(h,d):=op.mp b;show (MX e).mp (c.trans d.symm)
def qx{M:Qb}{A:Jq}{E:n5->pe->Prop}{i:4}{x:xD}{v:V}{u:n5}{Q:Unit->pe->Prop}(I:ao X pins σ H s)(hN:X.N.Nodup)(hi:X.N[i]?=!x)(t:Gh X.env.scope x)(r:aE v u)
  (h:∀s',ao X pins (σ.set i (!v)) H s'->(∃a,Np a s.heap s'.heap/\(a=X.env.locals\/X.env.cells.lookup x=!a))->Q Jr s') (hf:X.fn x=6\/X.env.scope.names.lookup x=!.local:=by first | show .inl 9 | show .inr 9 | assumption):wpAny M A (storeName X.env x u) Q E s:=by
 let(m,hn,hl):=id I.loc;have ac:(X.env.scope.kind==.class||(X.env.scope.kind==.module&&X.env.locals != X.env.globals))=5:=by rw[I.ok.kind];rfl
 have D:i<σ.length:=by rw[I.len];show (op.mp hi).1
 have cne:=I.cne;have l:∀{a:mu} {h':Jz},(∃o,s.heap.get? a=!o/\H a=8)->Np a s.heap h'->iP X.prog X.w H h':=λ{a h'} ha hs b ob e=>by
  let(_,_,B):=ha;show (I.hok b ob e).stay (λc w' hc q=>(hs.2 c ?_).trans q) (λ_ q=>q) (λ_ _ q=>q) λ_ _ _ q=>q;rintro rfl;let 9||hc:=hc
  ·rw[B]at e;cases e
  ·rw[B]at hc;cases hc
 let hk||hk:=t
 ·show wpAny_storeName_local hk hn (λh' as hs=>?_) ac
  let(oL,_,_,aA,_):=id hn;show h _ ⟨I.ok,I.os,I.bare,{λb o e n N t=>?_,λb o e n N t=>?_,I.base.free,λb o e t=>?_,I.base.tups,I.base.frzs,I.base.tbls},{_,as,λj y v' f C e3=>?_},λy c e=>?_,I.free,I.freeC,λp hp=>?_,l ⟨oL,aA,I.free⟩ hs,by simpa using I.len⟩ {_,hs,.inl 9}
  ·show (hs.2 b (vu (ti (xE e) I.ok.above))).trans (I.base.keep b o e n N t)
  ·let(sl,f):=I.base.slot b o e n N t
   show {sl,(hs.2 b (vu (ti (xE e) I.ok.above))).trans f}
  ·let(o',f):=I.base.there b o e t
   show {o',(hs.2 b (vu (ti (xE e) I.ok.above))).trans f}
  ·by_cases T:j=i
   ·subst T
    rw[hi]at f;cases f;rw[Jm D]at C;cases C;show {u,r,.inl ⟨hk,by simp⟩}
   ·rw[JN (JP T)]at C
    let(u',r',q):=hl j y v' f C e3;show {u',r',?_};let(k,e)||(k,c,e,z):=q
    ·show .inl {k,?_}
     have:y≠x:=λe=>T (tE hN f (e▸hi));simp[this,e]
    ·show .inr {k,c,e,z.sameBut hs (cne y c e)}
  ·let(w',z):=I.cell y c e
   show {w',z.sameBut hs (cne y c e)}
  ·let(e,n,ne,nf,d):=I.pin p hp
   show {(hs.2 p.1 ne).trans e,n,ne,nf,d}
 ·have O:X.fn x=6:=by
   let z||z:=hf
   ·show z
   ·rw[z]at hk;cases hk
  let(c,hc):=I.ok.has x (.inl hk);let(w',z):=I.cell x c hc;show wpAny_storeName_cell I.ok.kind hk hc z (λh' U hs=>?_);let(oc,an,ap):=id z;show h { s with heap:=h' } ⟨I.ok,I.os,I.bare,{λb o e n N t=>?_,λb o e n N t=>?_,I.base.free,λb o e t=>?_,I.base.tups,I.base.frzs,I.base.tbls},{m,hn.sameBut hs (JP (cne x c hc)),λj y v' f C e3=>?_},λy c' e=>?_,I.free,I.freeC,λp hp=>?_,l {oc,an,I.freeC x c hc} hs,by simpa using I.len⟩ {c,hs,.inr hc}
  ·show (hs.2 b (vu (ti (xE e) (I.ok.cab x c O hc)))).trans (I.base.keep b o e n N t)
  ·let(sl,f):=I.base.slot b o e n N t
   show {sl,(hs.2 b (vu (ti (xE e) (I.ok.cab x c O hc)))).trans f}
  ·let(o',f):=I.base.there b o e t
   show {o',(hs.2 b (vu (ti (xE e) (I.ok.cab x c O hc)))).trans f}
  ·by_cases T:j=i
   ·subst T
    rw[hi]at f;cases f;rw[Jm D]at C;cases C;show {u,r,.inr {.inl hk,c,hc,U}}
   ·rw[JN (JP T)]at C
    let(u',r',q):=hl j y v' f C e3;show {u',r',?_};let q||(k,c',e,z'):=q
    ·show .inl q
    ·show .inr {k,c',e,z'.sameBut hs ?_}
     rintro rfl;show T (tE hN f (I.ok.inj _ _ _ e hc▸hi))
  ·by_cases ab:c'=c
   ·subst ab;show {_,U}
   ·let(w2,z2):=I.cell y c' e
    show {w2,z2.sameBut hs ab}
  ·let(e,n,ne,nf,d):=I.pin p hp
   show {(hs.2 p.1 ?_).trans e,n,ne,nf,d};intro q;rw[q,an]at e;have q':oc=p.2:=vb e;show d w' (by rw[<- q'];show ap)
def dk{M:Qb}{A:Jq}{E:n5->pe->Prop}{i:4}{x:xD}{v:V}{u:n5}{Q:Unit->pe->Prop}(I:ao X pins σ H s)(b:X.N.Nodup)(hi:X.N[i]?=!x)(d:Gh X.env.scope x)(r:aE v u)
  (h:∀s',ao X pins (σ.set i (!v)) H s'->Q Jr s') (c:X.fn x=6\/X.env.scope.names.lookup x=!.local:=by first | show .inl 9 | show .inr 9 | assumption):wpAny M A (storeName X.env x u) Q E s:=
 qx I b hi d r (λs' a _=>h s' a) c
def ao.call'{s':pe}{ch:7 mu}(I:ao X pins σ H s)(n:s'.os=s.os)(u:Un (oE X.stack) ch H H' s.heap s'.heap)(i:iP X.prog X.w H' s'.heap)(j:AllBare s'.gens)
  (a:∀b∈ch,(b∈X.ex\/↑X.s₀<=b)/\b≠X.env.locals/\(∀x c,X.env.cells.lookup x=!c->c≠b)/\∀p∈X.pn++pins,p.1≠b):ao X pins σ H' s':=by
 let(h',g',d',t',q):=s';have e:q=s.os:=n;subst e;show I.call (g':=g') (t':=t') (d':=d') u i j a
end
abbrev St:=7 (Option V)
abbrev TE:=St->Hp->VK->Prop
abbrev TT:=St->Hp->(Bool->Hp->Prop)->Prop
abbrev TA:=St->Hp->(7 V->Hp->Prop)->Prop
structure bN where
 nx:St->Hp->Prop
 rt:VK
 bk:St->Hp->Prop:=λ_ _=>False
 ct:St->Hp->Prop:=λ_ _=>False
abbrev TS:=bN->St->Hp->Prop
def EP(X:Cx)(a:7 (mu×Ky))(σ:St)(Q:VK)(u:n5)(s':pe):Prop:=∃v b,ao X a σ b s'/\aE v u/\Q v b
def TP(X:Cx)(a:7 (mu×Ky))(σ:St)(Q:Bool->Hp->Prop)(b:Bool)(s':pe):Prop:=∃c,ao X a σ c s'/\Q b c
def AP(X:Cx)(a:7 (mu×Ky))(σ:St)(Q:7 V->Hp->Prop)(us:7 n5)(s':pe):Prop:=∃vs b,ao X a σ b s'/\az vs us/\Q vs b
def SP(X:Cx)(b:7 (mu×Ky))(D:bN)(f:Flow)(s':pe):Prop:=
 match f with
 | .next=>∃a c,ao X b a c s'/\D.nx a c
 | .brk=>∃a c,ao X b a c s'/\D.bk a c
 | .cont=>∃a c,ao X b a c s'/\D.ct a c
 | .ret u=>∃v a c,ao X b a c s'/\aE v u/\D.rt v c
def PE(X:Cx)(e:JF)(t:TE):Prop:=
 ∀(a:7 (mu×Ky)) (s:pe) (σ:St) (H:Hp) (Q:VK),ao X a σ H s->t σ H Q->wpAny (model X.prog X.w) X.A (eval e X.env) (EP X a σ Q) X.xe s
def PT(X:Cx)(e:JF)(t:TT):Prop:=
 ∀(a:7 (mu×Ky)) (s:pe) (σ:St) (H:Hp) (Q:Bool->Hp->Prop),ao X a σ H s->t σ H Q->wpAny (model X.prog X.w) X.A (isTrue e X.env (eval e X.env)) (TP X a σ Q) X.xe s
def PW(X:Cx)(e:JF)(t:TT):Prop:=
 ∀(b:QJ n5) (a:7 (mu×Ky)) (s:pe) (σ:St) (H:Hp) (Q:Bool->Hp->Prop),ao X a σ H s->t σ H Q->wpAny (model X.prog X.w) X.A (isTrue e X.env b) (TP X a σ Q) X.xe s
def PW.pt{X:Cx}{e:JF}{t:TT}(h:PW X e t):PT X e t:=h _
def PA(X:Cx)(c:7 JF)(t:TA):Prop:=
 ∀(b:LM) (a:7 (mu×Ky)) (s:pe) (σ:St) (H:Hp) (Q:7 V->Hp->Prop),ao X a σ H s->t σ H Q->wpAny (model X.prog X.w) X.A (spliced (backTo b (starEach c X.env))) (AP X a σ Q) X.xe s
def PS(X:Cx)(st:Jt)(t:TS):Prop:=
 ∀(a:7 (mu×Ky)) (s:pe) (σ:St) (H:Hp) (D:bN),ao X a σ H s->t D σ H->wpAny (model X.prog X.w) X.A (exec st X.env) (SP X a D) X.xe s
def sX(X:Cx)(st:7 Jt)(t:TS):Prop:=
 ∀(a:7 (mu×Ky)) (s:pe) (σ:St) (H:Hp) (D:bN),ao X a σ H s->t D σ H->wpAny (model X.prog X.w) X.A (execs st X.env) (SP X a D) X.xe s
def aJ{c:Type}{t:QJ c}{Q b:c->pe->Prop}{M:Qb}{A:Jq}{E:n5->pe->Prop}{s:pe}(h:wpAny M A t Q E s)(d:∀a s,Q a s->b a s):wpAny M A t b E s:=Jg h d λ_ _ x=>x
section
variable {X:Cx}
inductive gi(i:4)(σ:St)(H:Hp)(Q:VK):Prop
 | mk (v:_):σ[i]?=!!v->Q v H->gi i σ H Q
def tC(v:V):TE:=λ_ H Q=>Q v H
def uV {i:4} {x:xD} {j:LM} (n:X.N[i]?=!x) (t:HG X.env.scope x) (f:(x==("__debug__":xD))=5:=by decide) (hcd:(x==("__classdict__":xD))=5:=by decide):PE X (.Name x j) (gi i):=by
 intro d s σ H Q I h;let(v,e,h):=h;let(m,q,o):=I.loc;let(u,r,l):=o i x v n e t;have b:EP X d σ Q u s:=⟨v,H,I,r,h⟩;let(hk,p)||(hk,c,hc,a):=l
 ·show wpAny_Name (wpAny_loadName_local I.ok.kind hk q p b) f
 ·let hk||hk:=hk
  ·show wpAny_Name (wpAny_loadName_cell I.ok.kind hk hc a b) f
  ·show wpAny_Name (wpAny_loadName_free I.ok.kind hk hc a b hcd) f
def fR{i j a}:PE X (.Constant (.int i) j a) (tC (.int i)):=λ_ _ _ H _ I h=>wpAny_Constant_int {.int i,H,I.tok _,{_,9},h}
def Gi{b j a}:PE X (.Constant (.bool b) j a) (tC (.bl b)):=λ_ _ _ H _ I h=>Constant_bool {.bl b,H,I,9,h}
def Ex{j a}:PE X (.Constant .none j a) (tC .non):=λ_ _ _ H _ I h=>Constant_none {.non,H,I,9,h}
def zR{x j a}:PE X (.Constant (.str x) j a) (tC (.str x)):=λ_ _ _ H _ I h=>Nv {.str x,H,I.tok _,{_,9},h}
def Gl(X:Cx)(x:xD):Prop:=X.env.kindOf x=!.globalImplicit
def eB{E:n5->pe->Prop}{a:7 (mu×Ky)}{s:pe}{σ:St}{H:Hp}{x:xD}{u:n5}{b:LM}{Q:n5->pe->Prop}(I:ao X a σ H s)(d:Gl X x)(e:X.mg x=!u)(h:Q u s)
  (c:(x==("__debug__":xD))=5:=by decide):wpAny (model X.prog X.w) X.A (eval (.Name x b) X.env) Q E s:=
 Nw I.ok.kind d (Calls.loadGlobal_global (by rw[I.ok.glob];show I.mod.glob.keeps I.bk) e h) c
def cZ{E:n5->pe->Prop}{a:7 (mu×Ky)}{s:pe}{σ:St}{H:Hp}{x:xD}{u:n5}{b:LM}{Q:n5->pe->Prop}(I:ao X a σ H s)(e:Gl X x)(f:X.mg x=8)(j:Js x=!u)(h:Q u s)
  (i:x ≠ "__name__":=by decide) (hd:(x==("__debug__":xD))=5:=by decide):wpAny (model X.prog X.w) X.A (eval (.Name x b) X.env) Q E s:=by
 let(l,c,d):=I.mod.blt;show Nw I.ok.kind e (Calls.loadGlobal_builtin (by rw[I.ok.glob];show I.mod.glob.keeps I.bk) f (by rw[I.ok.blt];show c.keeps I.bk) ((d x i).trans j) h) hd
def Ce {x:xD} {v:V} {u:n5} {a:LM} (c:Gl X x) (d:X.mg x=!u) (r:aE v u) (b:(x==("__debug__":xD))=5:=by decide):PE X (.Name x a) (tC v):=
 λ_ _ _ H _ I h=>eB I c d ⟨v,H,I,r,h⟩ b
def Cf {x:xD} {v:V} {u:n5} {a:LM} (b:Gl X x) (c:X.mg x=8) (e:Js x=!u) (r:aE v u) (d:x ≠ "__name__":=by decide) (hd:(x==("__debug__":xD))=5:=by decide):PE X (.Name x a) (tC v):=
 λ_ _ _ H _ I h=>cZ I b c e ⟨v,H,I,r,h⟩ d hd
variable {a b:JF} {ta tb:TE} {pos:LM}
def PC(X:Cx)(f:CmpOp)(a b:JF)(t:TE):Prop:=
 ∀(c:7 (mu×Ky)) (s:pe) (σ:St) (H:Hp) (Q:VK),ao X c σ H s->t σ H Q->
  wpAny (model X.prog X.w) X.A (eval a X.env) (λv d=>wpAny (model X.prog X.w) X.A (eval b X.env) (λu e=>wpAny (model X.prog X.w) X.A (JX f v u) (EP X c σ Q) X.xe e) X.xe d) X.xe s
inductive iB(x:V)(H:Hp)(Q:Bool->Hp->Prop):Prop
 | mk (c:_):x=.bl c->Q c H->iB x H Q
def tB(t:TE):TT:=λσ H Q=>t σ H λx H1=>iB x H1 Q
def zS{i:CmpOp}{t:TE}(h:PC X i a b t)(f:behindInMarks i b=5:=by first | show nobehind _ (by decide) (by decide) | rfl):PT X (.Compare a [i] [b] pos) (tB t):=by
 intro e s σ H Q I hw;show wpAny_isTrue_Compare1 (aJ (h e s σ H _ I hw) λv o f=>aJ f λu p l=>aJ l λc r ⟨x,H1,j,n,q1⟩=>?_) f;let(d,9,q):=q1;cases n;show JQ ⟨H1,j,q⟩
variable {tA tB':TT} {rest:7 JF}
def HY(t u:TT):TT:=λσ H Q=>t σ H λc H1=>if c=6 then u σ H1 Q else Q 5 H1
def IR(t u:TT):TT:=λσ H Q=>t σ H λc H1=>if c=6 then Q 6 H1 else u σ H1 Q
def HZ(t:TT):TT:=λσ H Q=>t σ H λc H1=>Q ((not c)) H1
def Cg(f:PT X a tA):PW X (.BoolOp .And [a] pos) tA:=by
 intro j d s σ H Q I h;show isTrue_and (aJ (f d s σ H Q I h) λc i e=>?_);cases c with
 | true=>show isTrue_and_nil e
 | false=>show e
def uW(f:PT X a tA):PW X (.BoolOp .Or [a] pos) tA:=by
 intro j d s σ H Q I h;show isTrue_or (aJ (f d s σ H Q I h) λc i e=>?_);cases c with
 | false=>show isTrue_or_nil e
 | true=>show e
def Ey(f:PT X a tA)(i:PW X (.BoolOp .And (b::rest) pos) tB'):PW X (.BoolOp .And (a::b::rest) pos) (HY tA tB'):=by
 intro l d s σ H Q I h;show isTrue_and (aJ (f d s σ H _ I h) λc j ⟨H1,e,q1⟩=>?_);cases c with
 | true=>show i l d j σ H1 Q e q1
 | false=>show ⟨H1,e,q1⟩
def oZ(f:PT X a tA)(i:PW X (.BoolOp .Or (b::rest) pos) tB'):PW X (.BoolOp .Or (a::b::rest) pos) (IR tA tB'):=by
 intro l d s σ H Q I h;show isTrue_or (aJ (f d s σ H _ I h) λc j ⟨H1,e,q1⟩=>?_);cases c with
 | true=>show ⟨H1,e,q1⟩
 | false=>show i l d j σ H1 Q e q1
def Ez(e:PT X a tA):PT X (.UnaryOp .Not a pos) (HZ tA):=by
 intro d s σ H Q I h;show isTrue_not (e d s σ H (λc H1=>Q ((not c)) H1) I h)
def Gj(ta tb:TE):TE:=λσ H Q=>ta σ H λx H1=>∃c,x=.bl c/\if c=6 then tb σ H1 Q else Q (.bl 5) H1
def Ia(ta tb:TE):TE:=λσ H Q=>ta σ H λx H1=>∃c,x=.bl c/\if c=6 then Q (.bl 6) H1 else tb σ H1 Q
def Gn(ta:TE):TE:=λσ H Q=>ta σ H λx H1=>∃c,x=.bl c/\Q (.bl ((not c))) H1
def zT{d}{t:TE}(h:PE X a t):PE X (.BoolOp d [a] pos) t:=λc s σ H Q I hw=>BoolOp_one (h c s σ H Q I hw)
def zU(f:PE X a ta)(i:PE X (.BoolOp .And (b::rest) pos) tb):PE X (.BoolOp .And (a::b::rest) pos) (Gj ta tb):=by
 intro d s σ H Q I h;show BoolOp_and (aJ (f d s σ H _ I h) λv l ⟨x,H1,e,j,q1⟩=>?_);let(c,9,q1):=q1;cases j;show JQ ?_;cases c with
 | true=>show i d l σ H1 Q e q1
 | false=>show ⟨.bl 5,H1,e,9,q1⟩
def Go(f:PE X a ta)(i:PE X (.BoolOp .Or (b::rest) pos) tb):PE X (.BoolOp .Or (a::b::rest) pos) (Ia ta tb):=by
 intro d s σ H Q I h;show BoolOp_or (aJ (f d s σ H _ I h) λv l ⟨x,H1,e,j,q1⟩=>?_);let(c,9,q1):=q1;cases j;show JQ ?_;cases c with
 | false=>show i d l σ H1 Q e q1
 | true=>show ⟨.bl 6,H1,e,9,q1⟩
def EA(f:PE X a ta):PE X (.UnaryOp .Not a pos) (Gn ta):=by
 intro d s σ H Q I h;show UnaryOp_ (aJ (f d s σ H _ I h) λv j ⟨x,H1,e,i,q1⟩=>?_);let(c,9,q1):=q1;cases i;show not_of (JQ {.bl ((not c)),H1,e,9,q1})
def IS(t:TT)(ta tb:TE):TE:=λσ H Q=>t σ H λc H1=>if c=6 then ta σ H1 Q else tb σ H1 Q
def tF{c:JF}(hc:PT X c tA)(j:PE X a ta)(l:PE X b tb):PE X (.IfExp c a b pos) (IS tA ta tb):=by
 intro e s σ H Q I h;show wpAny_IfExp (aJ (hc e s σ H _ I h) λd i ⟨H1,f,q1⟩=>?_);cases d with
 | true=>show j e i σ H1 Q f q1
 | false=>show l e i σ H1 Q f q1
end
def Ib:n5->Option V
 | .none=>!.non
 | .bool b=>!.bl b
 | .int i _=>!.int i
 | .str x _=>!.str x
 | .bytes b _=>!.byt b
 | .float b _=>!.flt b
 | .ref a=>!.ref a
 | .type n=>!.ty n
 | _=>8
def aE.abs{x:V}{u:n5}(r:aE x u):Ib u=!x:=by
 cases x with
 | non=>cases r;rfl
 | bl _=>cases r;rfl
 | int _=>let(t,9):=r;rfl
 | str _=>let(t,9):=r;rfl
 | byt _=>let(t,9):=r;rfl
 | flt _=>let(t,9):=r;rfl
 | ref _=>cases r;rfl
 | ty _=>cases r;rfl
def aE.inj{x y:V}{u:n5}(r:aE x u)(q:aE y u):x=y:=vb (r.abs.symm.trans q.abs)
def az.inj:∀{xs ys:7 V} {us:7 n5},az xs us->az ys us->xs=ys
 | _,_,_,.nil,.nil=>rfl
 | _,_,_,.cons r t,.cons a t'=>by rw[r.inj a,az.inj t t']
section
variable {X:Cx} {pins:7 (mu×Ky)} {σ:St} {H:Hp} {s:pe} {a:mu} {xs ys:7 V}
def ak.of{K:PySem.W.Frag}(h:H a=!.lst xs):ak K H a xs:=.inl (.inl h)
def b9.of{K:PySem.W.Frag}(h:H a=!.tup xs):b9 K H a xs:=.inl (.inl h)
def ao.listM(I:ao X pins σ H s)(h:ak X.K H a xs):xs.length<=sizeLine/\∃(its:7 n5) (n:4),az xs its/\s.heap.get? a=some { cls:=.type "list",data:=.seq its.toArray n }:=by
 let h||(its,n,b,i,r):=h
 ·let(z,its,n,r,e):=h.ok I.hok
  show ⟨z,its,n,r,e⟩
 ·show ⟨?_,its.toList,n,r,by simpa using I.kIn a _ b⟩
  have e:=r.length;simp only[JH]at e;omega
def ao.list(I:ao X pins σ H s)(h:ak X.K H a xs):∃its:7 n5,az xs its/\PlainL s.heap a its.toArray/\xs.length<=sizeLine:=
 let ⟨z,its,n,r,e⟩:=I.listM h;{its,r,{_,n,e,9,9,9},z}
def ao.tuple(I:ao X pins σ H s)(h:b9 X.K H a xs):∃its:7 n5,az xs its/\IsTup s.heap a its.toArray/\xs.length<=sizeLine:=by
 let h||(o,its,n,b,hc,hs,i,r):=h
 ·let(z,its,r,p):=h.ok I.hok
  show ⟨its,r,p,z⟩
 ·show {its.toList,r,⟨o,I.kIn a o b,hc,n,by simpa using hs⟩,?_}
  have e:=r.length;simp only[JH]at e;omega
def ao.list_inj(I:ao X pins σ H s)(h:ak X.K H a xs)(h':ak X.K H a ys):xs=ys:=by
 let(its,r,(o,n,e,_,_,d),_):=I.list h;let(its',j,(t,q,b,_,_,d'),_):=I.list h';rw[e]at b;cases b;rw[d]at d';injection d' with i _;have:its=its':=by simpa using congrArg Array.toList i
 subst this;show r.inj j
end
abbrev Cx.wish(X:Cx)(E:n5->pe->Prop):Cx:={ X with xe:=E }
abbrev Cx.nox(X:Cx):Cx:=X.wish λ_ _=>False
def Cx.Ok.wish{X:Cx}(ok:X.Ok)(E:n5->pe->Prop):(X.wish E).Ok:=
 ⟨ok.mod,ok.kind,ok.glob,ok.blt,ok.above,ok.inj,ok.has,ok.cab,ok.hd,ok.frames,ok.stk,ok.exf,ok.bs,ok.bsz,ok.noex,ok.exfs,ok.funs,ok.frf⟩
def Cx.Ok.unwish{X:Cx}{E:n5->pe->Prop}(ok:(X.wish E).Ok):X.Ok:=
 ⟨ok.mod,ok.kind,ok.glob,ok.blt,ok.above,ok.inj,ok.has,ok.cab,ok.hd,ok.frames,ok.stk,ok.exf,ok.bs,ok.bsz,ok.noex,ok.exfs,ok.funs,ok.frf⟩
section
variable {X:Cx} {pins:7 (mu×Ky)} {σ:St} {H:Hp} {s:pe} {E:n5->pe->Prop}
def ao.wish(I:ao X pins σ H s)(E:n5->pe->Prop):ao (X.wish E) pins σ H s:={I.ok.wish E,I.os,I.bare,I.base,I.loc,I.cell,I.free,I.freeC,I.pin,I.hok,I.len}
def ao.unwish(I:ao (X.wish E) pins σ H s):ao X pins σ H s:=⟨I.ok.unwish,I.os,I.bare,I.base,I.loc,I.cell,I.free,I.freeC,I.pin,I.hok,I.len⟩
def SP.unwish{D:bN}{f:Flow}{s':pe}(h:SP (X.wish E) pins D f s'):SP X pins D f s':=by
 cases f with
 | next=>let(a,b,I,q):=h;show ⟨a,b,I.unwish,q⟩
 | brk=>let(a,b,I,q):=h;show ⟨a,b,I.unwish,q⟩
 | cont=>let(a,b,I,q):=h;show ⟨a,b,I.unwish,q⟩
 | ret u=>let(v,a,b,I,r,q):=h;show ⟨v,a,b,I.unwish,r,q⟩
def sX.nox{st:7 Jt}{t:TS}(h:sX X.nox st t):sX X st t:=λpins s σ H D I hw=>
 Jg (h pins s σ H D (I.wish _) hw) (λ_ _ q=>q.unwish) λ_ _ z=>JB z
end
section
variable {X:Cx} {st:Jt} {rest:7 Jt} {t u:TS} {e:JF} {te:TE} {pos:LM}
def D0:TS:=λD σ H=>D.nx σ H
def bN.lp(D:bN)(P:St->Hp->Prop):bN:={ D with nx:=P,ct:=P,bk:=D.nx }
def bN.sq(D:bN)(u:TS):bN:={ D with nx:=u D }
def EB(t u:TS):TS:=λD σ H=>t (D.sq u) σ H
def a9:sX X [] D0:=λ_ _ σ H _ I h=>Lw ⟨σ,H,I,h⟩
def ai(i:PS X st t)(j:sX X rest u):sX X (st::rest) (EB t u):=by
 intro a s σ H D I h;show N6 (aJ (i a s σ H { D with nx:=u D } I h) λf l q=>?_);cases f with
 | next=>
  let(b,c,d,q):=q;show j a l b c D d q
 | ret v=>show q
 | brk=>show q
 | cont=>show q
def ax(b:PS X st t):sX X [st] t:=by
 intro a s σ H D I h;show N6 (aJ (b a s σ H D I h) λf c q=>?_);cases f with
 | next=>show Lw q
 | ret v=>show q
 | brk=>show q
 | cont=>show q
def ao.quiet{a:7 (mu×Ky)}{σ:St}{H:Hp}{s:pe}(I:ao X a σ H s):interactive X.env=5:=by simp[interactive,I.ok.kind]
def Gq(te:TE):TS:=λD σ H=>te σ H λ_ H1=>D.nx σ H1
def oG(c:PE X e te)(hs:Mm e 8 pos.line X.env=pure 5:=by rfl):PS X (.Expr e pos) (Gq te):=by
 intro a s σ H D I h;show wpAny_Expr_any (aJ (c a s σ H _ I h) λv f ⟨x,H1,b,d,q1⟩=>⟨σ,H1,b,q1⟩) I.quiet hs
def Ic(te:TE):TS:=λD σ H=>te σ H D.rt
def fS(c:PE X e te):PS X (.Return (!e) pos) (Ic te):=by
 intro a s σ H D I h;show wpAny_Return_some (aJ (c a s σ H _ I h) λv f ⟨x,H1,b,d,q1⟩=>⟨x,σ,H1,b,d,q1⟩)
def Gs:TS:=λD _ H=>D.rt .non H
def Ch:PS X (.Return 8 pos) Gs:=λ_ _ σ H _ I h=>wpAny_Return_none {.non,σ,H,I,9,h}
def Gu(c:TT)(t u:TS):TS:=λD σ H=>c σ H λb H1=>if b=6 then t D σ H1 else u D σ H1
def cb{c:JF}{a b:7 Jt}{l:TT}(hc:PT X c l)(n:sX X a t)(o:sX X b u):PS X (.If c a b pos) (Gu l t u):=by
 intro f s σ H D I h;show wpAny_If (aJ (hc f s σ H _ I h) λd j ⟨H1,i,q1⟩=>?_);cases d with
 | true=>show n f j σ H1 D i q1
 | false=>show o f j σ H1 D i q1
def EC:TS:=λ_ _ _=>False
def o0:PS X st EC:=λ_ _ _ _ _ _ h=>h.elim
end
abbrev TG:=V->St->Hp->(St->Hp->Prop)->Prop
abbrev Gv:=7 V->St->Hp->(St->Hp->Prop)->Prop
def PG(X:Cx)(a:JF)(t:TG):Prop:=
 ∀(b:7 (mu×Ky)) (s:pe) (σ:St) (H:Hp) (v:V) (u:n5) (Q:St->Hp->Prop),ao X b σ H s->aE v u->t v σ H Q->
  wpAny (model X.prog X.w) X.A (assign a X.env u) (λ_ s'=>∃c d,ao X b c d s'/\Q c d) X.xe s
def Gw(X:Cx)(ts:7 JF)(t:Gv):Prop:=
 ∀(a:7 (mu×Ky)) (s:pe) (σ:St) (H:Hp) (vs:7 V) (us:7 n5) (Q:St->Hp->Prop),ao X a σ H s->az vs us->t vs σ H Q->
  wpAny (model X.prog X.w) X.A (assignInOrder ((Mh ts X.env).map (·.2)) us) (λ_ s'=>∃b c,ao X a b c s'/\Q b c) X.xe s
abbrev ED:=V->V->V->Hp->(Hp->Prop)->Prop
def Gx(X:Cx)(t:ED):Prop:=
 ∀(a:7 (mu×Ky)) (s:pe) (σ:St) (H:Hp) (o i v:V) (d c u:n5) (Q:Hp->Prop),ao X a σ H s->aE o d->aE i c->aE v u->t o i v H Q->
  wpAny (model X.prog X.w) X.A (setItem d c u) (λ_ s'=>∃b,ao X a σ b s'/\Q b) X.xe s
abbrev HH:=V->V->Hp->VK->Prop
def Id(X:Cx)(b:Qc)(t:HH):Prop:=
 ∀(a:7 (mu×Ky)) (s:pe) (σ:St) (H:Hp) (x y:V) (v u:n5) (Q:VK),ao X a σ H s->aE x v->aE y u->t x y H Q->
  wpAny (model X.prog X.w) X.A (inplaceOp b v u) (EP X a σ Q) X.xe s
section
variable {X:Cx} {pos:LM}
def kD(i:4):TG:=λv σ H Q=>Q (σ.set i (!v)) H
def jT{i:4}{x:xD}(c:X.N.Nodup)(hi:X.N[i]?=!x)(e:Gh X.env.scope x)(d:X.fn x=6\/X.env.scope.names.lookup x=!.local:=by first | show .inl 9 | show .inr 9 | assumption):PG X (.Name x pos) (kD i):=by
 intro a s σ H v u Q I r h;show wpAny_assign_Name (dk I c hi e r (λs' b=>{_,H,b,h}) d)
inductive Gy  (vs:7 V) (σ:St) (H:Hp) (Q:St->Hp->Prop):Prop
 | mk :vs=[]->Q σ H->Gy  vs σ H Q
inductive D1(t:TG)(u:Gv)(vs:7 V)(σ:St)(H:Hp)(Q:St->Hp->Prop):Prop
 | mk (v:_) (r:_):vs=v::r->(t v σ H λσ' H'=>u r σ' H' Q)->D1 t u vs σ H Q
def wb:Gw X [] Gy:=by
 intro a s σ H vs us Q I r h;let(e,h):=h;subst e;cases r;show assignInOrder_nil ⟨σ,H,I,h⟩
def i5{e:JF}{b:7 JF}{t:TG}{u:Gv}(i:PG X e t)(j:Gw X b u)
  (hs:(Mh (e::b) X.env).map (·.2)=assign e X.env::(Mh b X.env).map (·.2):=by rfl):Gw X (e::b) (D1 t u):=by
 intro a s σ H vs us Q I r h;let(v,o,f,h):=h;subst f;cases r with
 | cons r l=>
  rw[hs];show assignInOrder_cons (aJ (i a s σ H _ _ _ I r h) λ_ n ⟨c,H1,d,q1⟩=>?_);show j a n c H1 _ _ Q d l q1
inductive EE(K:PySem.W.Frag)(n:4)(t:Gv)(v:V)(σ:St)(H:Hp)(Q:St->Hp->Prop):Prop
 | mk (a:_) (xs:_):v=.ref a->b9 K H a xs->xs.length=n->t xs σ H Q->EE K n t v σ H Q
def EF{d:7 JF}{k:4}{t:Gv}{n:4}(hc:X.calm=6)(h:Gw X d t)
  (p:(Mh d X.env).length=n:=by rfl) (hst:(Mh d X.env).findIdx? (·.1)=8:=by rfl):PG X (.Tuple d k pos) (EE X.K n t):=by
 intro c s σ H v u Q I r hw;let(a,xs,j,q,l,hw):=hw;subst j;cases r;let(its,f,x,z):=I.tuple q;show assign_Tuple_tuple (I.ok.hd hc) x (by simp[p,<- l,f.length]) hst λh' y=>?_;have i:ao X c σ H { s with heap:=h' }:=I.kept (t':=s.toks) λb o e=>y b o (vu (xE e)) e;show h c _ σ H xs _ Q i (by simpa using f) hw
def Ie(d c:TE)(t:ED):TG:=λv σ H Q=>d σ H λo H1=>c σ H1 λi a=>t o i v a λb=>Q σ b
def EG{o i:JF}{e d:TE}{t:ED}(z:PE X o e)(hi:PE X i d)(hs:Gx X t)
  (q:∀v,assign (.Subscript o i pos) X.env v=(do
   let b <- holding [v] (eval o X.env)
   let c <- holding [v,b] (eval i X.env)
   standAt pos
   holding [v,b,c] (setItem b c v)
   release [v,b,c] []):=by intro _;rfl):PG X (.Subscript o i pos) (Ie e d t):=by
 intro a s σ H v u Q I r h;rw[q];show mi (Ki (aJ (z a s σ H _ I h) λb E ⟨x,H1,l,C,q1⟩=>?_));show mi (Ki (aJ (hi a E σ H1 _ l q1) λc M ⟨y,f,n,D,A⟩=>?_));show mi (Ko (mi (Ki (aJ (hs a M σ f x y v b c u _ n C D r A) λ_ N ⟨j,p,B⟩=>?_))));show wpAny_release ⟨σ,j,p,B⟩
def Ci(te:TE)(g:TG):TS:=λD σ H=>te σ H λx H1=>g x σ H1 D.nx
def rM{b e:JF}{te:TE}{g:TG}(d:PE X e te)(f:PG X b g)(hs:Pn [b] e pos.line X.env=pure 5:=by rfl)(hw:Po [b] e X.env=pure 8:=by rfl)
  (h1:(Mh [b] X.env).map (·.2)=[assign b X.env]:=by rfl):PS X (.Assign [b] e pos) (Ci te g):=by
 intro a s σ H D I h;show wpAny_Assign_stores (aJ (d a s σ H _ I h) λv j ⟨x,H1,c,i,q1⟩=>?_) hs hw;rw[h1];show aJ (f a j σ H1 x v _ c i q1) λ_ l q=>q
def mK{i:4}{x:xD}{e:JF}{te:TE}{a:LM}(f:X.N.Nodup)(hi:X.N[i]?=!x)(l:Gh X.env.scope x)(j:PE X e te)(hs:Mm e (!.Name x a) pos.line X.env=pure 5:=by rfl)(hf:X.fn x=6\/X.env.scope.names.lookup x=!.local:=by first | show .inl 9 | show .inr 9 | assumption):
  PS X (.Assign [.Name x a] e pos) (Ci te (kD i)):=by
 intro b s σ H D I h;show wpAny_Assign_Name (aJ (j b s σ H _ I h) λv o ⟨y,H1,c,n,q1⟩=>?_) hs;show dk c f hi l n (λp d=>{_,H1,d,q1}) hf
def Gz(i j:4)(a:TA):TS:=λD σ H=>a σ H λvs H1=>∃v w,vs=[v,w]/\D.nx ((σ.set i (!v)).set j (!w)) H1
def mL{i j:4}{x y:xD}{a b:JF}{O:TA}{z A pt:LM}{u k2 d}(hc:X.calm=6)(E:X.N.Nodup)(hi:X.N[i]?=!x)(hj:X.N[j]?=!y)(r:i≠j)
  (M:X.env.scope.names.lookup x=!.local) (N:X.env.scope.names.lookup y=!.local) (ha:PA X [a,b] O)
  (hw:Po [.Tuple [.Name x z,.Name y A] u pt] (.Tuple [a,b] k2 d) X.env=pure (![x,y]))
  (hs:Pn [.Tuple [.Name x z,.Name y A] u pt] (.Tuple [a,b] k2 d) pos.line X.env=pure 5:=by rfl):
  PS X (.Assign [.Tuple [.Name x z,.Name y A] u pt] (.Tuple [a,b] k2 d) pos) (Gz i j O):=by
 intro c s σ H D I h;rw[exec_Assign_arm];show mi (Ko ?_);rw[hs];show mi (ri ?_);rw[if_neg (by decide)];show mi (Tuple_ (aJ (ha _ c s σ H _ I h) λus f ⟨vs,H1,Q,r1,q1⟩=>?_));let(v,w,e1,q1):=q1;subst e1;let(l,n,9,rv,B):∃l n,us=[l,n]/\aE v l/\aE w n:=by
  cases r1 with
  | cons p q=>
   cases q with
   | cons p' q'=>
    cases q';show {_,_,9,p,p'}
 show Kq ?_ (by show 2<=sizeLine;decide);have T:ao X c σ H1 { f with heap:=f.heap.push { cls:=.type "tuple",data:=.seq [l,n].toArray } }:=Q.kept (t':=f.toks) λb o e=>pu _ e;rw[hw];show mi (ri ?_);show wpAny (model X.prog X.w) X.A (do rule "assign.swapped-stores";let items <- unpackItems (.ref ↑f) 2 none;assignInOrder [λv=>Mu X.env y v,λv=>Mu X.env x v] items.reverse;pure Qp) _ _ _;show mi (KU (mi (unpackItems_tuple (items:=#[l,n]) (I.ok.hd hc) (IsTup.new f.heap _) λh' t=>?_)))
 have U:=T.kept (h':=h') (t':=f.toks) λb o e=>t b o (vu (xE e)) e;show wpAny _ _ (assignInOrder [λv=>Mu X.env y v,λv=>Mu X.env x v] [n,l] >>= λ_=>pure Qp) _ _ _;show mi (assignInOrder_cons (Mw (dk U E hj (.inl N) B (λs2 I4=>?_) (.inr N))));show assignInOrder_cons (Mw (dk I4 E hi (.inl M) rv (λs3 C=>assignInOrder_nil (ri ?_)) (.inr M)));rw[set_comm _ _ (JP r)]at C;show {_,H1,C,q1}
def Ig(i:4)(te:TE)(b:HH):TS:=λD σ H=>∃x,σ[i]?=!!x/\te σ H λy H1=>b x y H1 λz a=>D.nx (σ.set i (!z)) a
def zV{i:4}{x:xD}{e:JF}{te:TE}{o:Qc}{q:HH}{d:LM}(M:X.N.Nodup)(hi:X.N[i]?=!x)(n:Gh X.env.scope x)(N:PE X e te)(ho:Id X o q)(O:X.fn x=6\/X.env.scope.names.lookup x=!.local:=by first | show .inl 9 | show .inr 9 | assumption):
  PS X (.AugAssign (.Name x d) o e pos) (Ig i te q):=by
 intro a s σ H D I h;let(v,E,h):=h;let(m,U,Q):=I.loc;have p:HG X.env.scope x:=by let k||k:=n;show .inl k;show .inr (.inl k)
 let(u,r,l):=Q i x v hi E p;show wpAny_AugAssign_Name ?_;have go:wpAny (model X.prog X.w) X.A (eval e X.env) (λw f=>wpAny (model X.prog X.w) X.A (inplaceOp o u w) (λr j=>wpAny (model X.prog X.w) X.A (storeName X.env x r) (λ_=>SP X a D .next) X.xe j) X.xe f) X.xe s:=by
  show aJ (N a s σ H _ I h) λw s1 ⟨y,H1,A,r1,q1⟩=>?_;show aJ (ho a s1 σ H1 v y u w _ A r r1 q1) λz s2 ⟨zv,t,B,r2,q2⟩=>?_;show dk B M hi n r2 (λs3 C=>{_,t,C,q2}) O
 let(hk,T)||(hk,c,hc,b):=l
 ·show wpAny_loadName_local I.ok.kind hk U T go
 ·let hk||hk:=hk
  ·show wpAny_loadName_cell I.ok.kind hk hc b go
  ·let k||k:=n
   ·have:X.env.scope.names.lookup x=!.free:=hk
    rw[k]at this;cases this
   ·have:X.env.scope.names.lookup x=!.free:=hk
    rw[k]at this;cases this
def IC(f:3->3->3):HH:=λx y H Q=>∃i j,x=.int i/\y=.int j/\Q (.int (f i j)) H
def EH:Id X .Add (IC λi j=>i+j):=by
 intro a s σ H x y v u Q I d e h;let(i,j,b,c,q):=h;subst b;subst c;let(t,9):=d;let(t',9):=e;show iadd_int {.int _,H,I.tok _,{_,9},q}
def EI:Id X .Sub (IC λi j=>i-j):=by
 intro a s σ H x y v u Q I d e h;let(i,j,b,c,q):=h;subst b;subst c;let(t,9):=d;let(t',9):=e;show isub_int {.int _,H,I.tok _,{_,9},q}
def EJ(c:TT)(f:TS):TS:=λD σ H=>∃W:4->St->Hp->Prop,(∃m,W m σ H)/\∀m σ H,W m σ H->
 c σ H λb H1=>if b=6 then ∃N:St->Hp->Prop,(∀a d,N a d->∃e,e<m/\W e a d)/\f { D with nx:=N,ct:=N,bk:=D.nx } σ H1 else D.nx σ H1
def tG{c:JF}{i:7 Jt}{M:TT}{E:TS}(hp:PassesOwn (model X.prog X.w) X.A X.env X.xe)(hc:PT X c M)(Q:sX X i E):PS X (.While c i [] pos) (EJ M E):=by
 intro a s σ H D I h;let(W,(T,w0),l):=h;show wpAny_While (codeAny_whileLoop (λn s'=>∃o z,ao X a o z s'/\W n o z) ?_ T ⟨σ,H,I,w0⟩);rintro n U ⟨e,H1,O,w1⟩;show K6 hp (aJ (hc a U e H1 _ O (l n e H1 w1)) λb s2 ⟨A,B,p⟩=>?_);cases b with
 | true=>
  let(N,C,p):=p;rw[if_pos 9];show K6 hp (aJ (Q a s2 e A _ B p) λf s3 q=>?_);cases f with
  | next=>
   let(d,j,r,x):=q;let(u,t,y):=C d j x;show ⟨u,t,d,j,r,y⟩
  | cont=>
   let(d,j,r,x):=q;let(u,t,y):=C d j x;show ⟨u,t,d,j,r,y⟩
  | brk=>show q
  | ret v=>show q
 | false=>
  rw[if_neg t7];show Lw ⟨e,A,B,p⟩
end
structure It where
 go:4->Hp->Prop
 yld:4->Hp->V->Hp->Prop
 stop:4->Hp->Prop
def cy(X:Cx)(a:7 (mu×Ky))(H:Hp)(b:mu):Prop:=
 H b=8/\b≠X.env.locals/\b∉X.fs/\(b∈X.ex\/↑X.s₀<=b)/\(∀x c,X.env.cells.lookup x=!c->c≠b)/\∀p∈X.pn++a,p.1≠b
def ao.fpOk{X:Cx}{a:7 (mu×Ky)}{σ:St}{H j:Hp}{s:pe}{b:mu}(I:ao X a σ H s)(i:↑s<=b)(n:j b=8):cy X a j b:=by
 show {n,Kg (ti I.lt i),I.nofs i,.inr (xM I.sz i),λx c e z=>?_,λp hp z=>?_}
 ·let(v,q):=I.cell x c e
  show absurd (ti q.lt (by rw[z];show i)) (Kw _)
 ·show absurd (ti (xE (I.pin p hp).1) (by rw[z];show i)) (Kw _)
structure uX(P:IY)(w:Je)(K:PySem.W.Frag)(tg:JF)(J:It)(fp:7 mu)(it:mu)(tn:4->Jz->Prop):Prop where
 mem:it∈fp
 obj:∀i h,tn i h->∀b∈fp,∃o,h.get? b=!o/\∀v,o.data≠.cell v
 keep:∀i h h',tn i h->(∀b∈fp,∀o,h.get? b=!o->h'.get? b=!o)->tn i h'
 item:∀(X:Cx),X.prog=P->X.w=w->X.K=K->X.calm=6->∀(i:4) (pins:7 (mu×Ky)) (s:pe) (σ:St) (H:Hp) (E:n5->pe->Prop),ao X pins σ H s->(∀b∈fp,cy X pins H b)->tn i s.heap->J.go i H->
  wpAny (model P w) X.A (Ou (.ref it)) (λr s1=>∃u,r=!u /\
   wpAny (model P w) X.A (Nk tg (.ref it) u) (λ_ s2=>∃x H',ao X pins σ H' s2/\aE x u/\J.yld i H x H'/\tn (i+1) s2.heap/\∀b∈fp,H' b=8) E s1) E s
 done:∀(X:Cx),X.prog=P->X.w=w->X.K=K->X.calm=6->∀(i:4) (pins:7 (mu×Ky)) (s:pe) (σ:St) (H:Hp) (E:n5->pe->Prop),ao X pins σ H s->(∀b∈fp,cy X pins H b)->tn i s.heap->J.stop i H->
  wpAny (model P w) X.A (Ou (.ref it)) (λr s1=>r=8/\ao X pins σ H s1) E s
 self:∀(A:Jq) (i:4) (s:pe) (Q:n5->pe->Prop) (E:n5->pe->Prop),tn i s.heap->Q (.ref it) s->wpAny (model P w) A (PM (.ref it)) Q E s
abbrev TI:=St->Hp->(It->Hp->Prop)->Prop
def ID(X:Cx)(a:7 (mu×Ky))(σ:St)(i:JF)(R:It->Hp->Prop)(d:n5)(f:pe):Prop:=
 ∃(it:mu) (e:7 mu) (h:4->Jz->Prop) (J:It) (c:Hp),d=.ref it/\ao X a σ c f/\uX X.prog X.w X.K i J e it h/\h 0 f.heap/\(∀b∈e,cy X a c b)/\R J c
def PI(X:Cx)(c iter:JF)(d:TI):Prop:=
 ∀(a:7 (mu×Ky)) (s:pe) (σ:St) (H:Hp) (R:It->Hp->Prop),ao X a σ H s->d σ H R->
  wpAny (model X.prog X.w) X.A (eval iter X.env) (λv b=>wpAny (model X.prog X.w) X.A (PM v) (ID X a σ c R) X.xe b) X.xe s
def zW{M:Qb}{A:Jq}{E:n5->pe->Prop}{s:pe}{b:JF}{it:mu}{u:n5}{o:Ky}{n:String}{vs:Array n5}{Q:Unit->pe->Prop}(e:s.heap.get? it=!o)(hc:o.cls=.type n)(c:o.data=.fields vs)
  (d:["enumerate", "zip", "dict_itemiterator", "dict_reverseitemiterator", "odict_iterator", "itertools.zip_longest", "itertools.pairwise"].contains n=5) (a:Q Jr s):wpAny M A (Nk b (.ref it) u) Q E s:=by
 unfold Nk;cases b<;>first
  | show ri a
  | (cases u<;>first
    | show ri a
    | (show mi (wpAny_load e ?_)
       rw[hc,c];show wpAny M A (if (["enumerate", "zip", "dict_itemiterator", "dict_reverseitemiterator", "odict_iterator", "itertools.zip_longest", "itertools.pairwise"].contains n&&vs[0]?==!rawInt _)=6 then _ else _) Q E s;rw[if_neg (by intro h;rw[d,Jw]at h;cases h)];show ri a))
def F4(K:PySem.W.Frag)(a:mu):It:=
 {λi H=>∃xs x,ak K H a xs/\xs[i]?=!x,λi H x b=>b=H/\∀xs,ak K H a xs->xs[i]?=!x,λi H=>∃xs,ak K H a xs/\xs.length<=i}
def D2(lo:3)(n:4):It:={λi _=>i<n,λi H x a=>a=H/\x=.int (lo+i),λi _=>n<=i}
def yu{P:IY}{w:Je}{K:PySem.W.Frag}{tg:JF}(a it:mu):uX P w K tg (F4 K a) [it] it (λi h=>h.IsListIter it a i) where
 mem:=by simp
 obj:=λi h st b j=>by
  have e:b=it:=by simpa using j
  subst e;let(o,e,c,d):=st;show ⟨o,e,λv z=>by rw[d]at z;cases z⟩
 keep:=λi h h' st k=>st.at λo e=>k it (by simp) o e
 item:=by
  intro X D hw C hc i f s σ H E I n st M;subst D hw C;let(xs,x,q,N):=M;let(its,O,p,hz):=I.list q;let(u,hu,ru):=O.get N;let(r,t,U,y,A,B):=n it (by simp);show wpAny_pyNext_list_item st p.isList (x:=u) (by simpa using hu) λh' l sb=>?_;have Q:ao X f σ H { s with heap:=h' }:=I.turned (t':=s.toks) (λb o j e=>(sb.2 b j).trans e) r t y A B;let(o,e,c,d):=id l;show ⟨u,9,zW (s:={ s with heap:=h' }) e c d (by decide) ⟨x,H,Q,ru,⟨9,λys hy=>by rw[I.list_inj hy q];show N⟩,l,λb j=>(n b j).1⟩⟩
 done:=by
  intro X D hw C hc i f s σ H E I n st M;subst D hw C;let(xs,q,N):=M;let(its,O,p,hz):=I.list q;let(r,t,U,y,A,B):=n it (by simp);have hl:=O.length;show wpAny_pyNext_list_end (I.ok.hd hc) st p.isList (by simp;omega) λh' T=>{9,I.turned (t':=s.toks) (λb o j e=>T b o j e) r t y A B}
 self:=λ_ _ _ _ _ st h=>wpAny_pyIter_listiter st h
def uY{P:IY}{w:Je}{K:PySem.W.Frag}{O:JF}(it:mu)(lo:3)(n:4):uX P w K O (D2 lo n) [it] it (λi h=>OV h it (lo+(i:4)*1) ((n:3)-(i:4)) 1) where
 mem:=by simp
 obj:=λi h st b c=>by
  have e:b=it:=by simpa using c
  subst e;show ⟨_,st,λv z=>by
   have Q:Nf _=MY v:=z;cases Q⟩
 keep:=λi h h' st k=>k it (by simp) _ st
 item:=by
  intro X x hw u hc i a s σ H E I f st y;subst x hw u;let(j,l,D,p,q,r):=f it (by simp);have W:=Walks.range (prog:=X.prog) (w:=X.w) (I.ok.hd hc) it lo 1 n;show W.item i s _ _ y st λv h' A M d N=>?_;let(t,9):=M;have B:ao X a σ H { s with heap:=h',toks:=A }:=I.turned (λb o c e=>N b o (by simpa using c) e) j l p q r;show {_,9,zW (s:={ s with heap:=h',toks:=A }) (n := "range_iterator") d 9 9 (by decide) {.int (lo+i),H,B,{t,?_},⟨9,9⟩,d,λb c=>(f b c).1}};rw[Int.mul_one]
 done:=by
  intro X x hw u hc i a s σ H E I f st y;subst x hw u;let(j,l,D,p,q,r):=f it (by simp);show wpAny_pyNext_range_end (I.ok.hd hc) st (by have:n<=i:=y;omega) λh' C=>{9,I.turned (t':=s.toks) (λb o c e=>C b o c e) j l p q r}
 self:=λ_ _ _ _ _ st h=>wpAny_pyIter_rangeiter st h
section
variable {X:Cx} {tg:JF}
inductive IE(K:PySem.W.Frag)(x:V)(H:Hp)(R:It->Hp->Prop):Prop
 | mk (a:_):x=.ref a->(∃xs,ak K H a xs)->R (F4 K a) H->IE K x H R
def zX(K:PySem.W.Frag)(a:TE):TI:=λσ H R=>a σ H λx H1=>IE K x H1 R
def Cj{l:JF}{i:TE}(n:PE X l i):PI X tg l (zX X.K i):=by
 intro c s σ H R I h;show aJ (n c s σ H _ I h) λv f ⟨x,H1,d,t,q1⟩=>?_;let(a,e,(xs,r),q):=q1;subst e;cases t;let(its,y,p,u):=d.list r;show K9 p.isList ?_;show {↑f,[↑f],_,_,H1,9,d.kept (t':=f.toks) λb o e=>pu _ e,yu a _,{_,y8 _ 9,9,9},λb j=>?_,q};have e:b=↑f:=by simpa using j
 subst e;show d.fpOk (oN _) (d.hok.fresh (oN _))
def tH{a:7 (mu×Ky)}{σ:St}{H:Hp}{s:pe}{R:It->Hp->Prop}{E:n5->pe->Prop}{lo hi:3}{t u v:Tok}{d:4}(I:ao X a σ H s)(i:-(2^62)<=lo)(j:lo<2^62)(l:-(2^62)<=hi)(n:hi<2^62)
  (q:R (D2 lo (hi-lo).toNat) H):wpAny (model X.prog X.w) X.A (PM (.ref ↑s)) (ID X a σ tg R) E { s with heap:=s.heap.push { cls:=.type "range",data:=.fields #[.int lo t,.int hi u,.int 1 v] },toks:=d }:=by
 show wpAny_pyIter_range (IsRange.new ..) (small_one i j l n) ?_;have c:ao X a σ H { s with heap:=s.heap.push { cls:=.type "range",data:=.fields #[.int lo t,.int hi u,.int 1 v] },toks:=d }:=I.kept λb o e=>pu _ e;show ⟨(s.heap.push { cls:=.type "range",data:=.fields #[.int lo t,.int hi u,.int 1 v] }).objs.size,[(s.heap.push { cls:=.type "range",data:=.fields #[.int lo t,.int hi u,.int 1 v] }).objs.size],_,_,H,9,
  c.kept (t':=d) λb o e=>pu _ e,uY _ lo (hi-lo).toNat,?_,λb p=>?_,q⟩
 ·have f:lo+((0:4):3)*1=lo:=by simp
  have h:(((hi-lo).toNat:4):3)-((0:4):3)=Kl lo hi 1:=by rw[Pp];split<;>omega
  show OV _ _ (lo+((0:4):3)*1) ((((hi-lo).toNat:4):3)-((0:4):3)) 1;rw[f,h];show y8 _ 9
 ·have e:b=(s.heap.push { cls:=.type "range",data:=.fields #[.int lo t,.int hi u,.int 1 v] }).objs.size:=by simpa using p
  subst e;show c.fpOk (oN _) (c.hok.fresh (oN _))
inductive IF(vs:7 V)(H:Hp)(R:It->Hp->Prop):Prop
 | mk (j:3):vs=[.int j]->-(2^62)<=j->j<2^62->R (D2 0 j.toNat) H->IF vs H R
def GA(a:TA):TI:=λσ H R=>a σ H λvs H1=>IF vs H1 R
def GB(a:TA):TI:=λσ H R=>a σ H λvs H1=>∃i j:3,vs=[.int i,.int j]/\(-(2^62)<=i/\i<2^62/\-(2^62)<=j/\j<2^62)/\R (D2 i (j-i).toNat) H1
def yv {a:JF} {d:TA} {p c:LM} (l:Gl X "range") (n:X.mg "range"=8) (i:PA X [a] d) (hs:starEach [a] X.env=[(5,eval a X.env)]:=by rfl):PI X tg (.Call (.Name "range" p) [a] [] c) (GA d):=by
 intro b s σ H R I h;show Call_ (cZ I l n boot_range (Jx (aJ (i c b s σ H _ I h) λus x ⟨vs,H1,f,u,q1⟩=>?_) hs 9));let(j,e,q1,o,q):=q1;subst e;cases u with
 | cons r v=>
  cases v;let(t,9):=r;show call_range_1 (tH f () () q1 o (by simpa using q))
def yw {a b:JF} {l:TA} {p d:LM} (u:Gl X "range") (v:X.mg "range"=8) (o:PA X [a,b] l) (hs:starEach [a,b] X.env=[(5,eval a X.env),(5,eval b X.env)]:=by rfl) (hs2:starEach [b] X.env=[(5,eval b X.env)]:=by rfl):
  PI X tg (.Call (.Name "range" p) [a,b] [] d) (GB l):=by
 intro c s σ H R I h;show Call_ (cZ I u v boot_range (Jx (aJ (o d c s σ H _ I h) λus C ⟨vs,H1,n,B,q1⟩=>?_) (by rw[hs,hs2]) (by rw[hs2];rfl)));let(i,j,e,(q1,x,y,z),q):=q1;subst e;cases B with
 | cons r f=>
  cases f with
  | cons A f=>
   cases f;let(t,9):=r;let(t',9):=A;show call_range_2 (tH n q1 x y z q)
def Ih(h:TI)(g:TG)(f:TS):TS:=λD σ H=>h σ H λJ H1=>∃W:4->4->St->Hp->Prop,(∃m,W 0 m σ H1)/\∀i m σ H,W i m σ H->
 (J.stop i H/\D.nx σ H)\/(J.go i H/\∃N:St->Hp->Prop,(∀b a,N b a->∃d,d<m/\W (i+1) d b a)/\∀x a,J.yld i H x a->g x σ a λc e=>f { D with nx:=N,ct:=N,bk:=D.nx } c e)
def ld(a:7 mu)(h:Jz):7 (mu×Ky):=a.filterMap λb=>(h.get? b).map λo=>(b,o)
def bO{a:7 mu}{h:Jz}{b:mu}{o:Ky}(c:b∈a)(e:h.get? b=!o):(b,o)∈ld a h:=PN.mpr ⟨b,c,by rw[e];rfl⟩
def yx{a:7 mu}{h:Jz}{p:mu×Ky}(hp:p∈ld a h):p.1∈a/\h.get? p.1=!p.2:=by
 let(b,d,e):=PN.mp hp;cases q:h.get? b with
 | none=>rw[q]at e;cases e
 | some o=>
  rw[q]at e;have c:(b,o)=p:=vb e;subst c;show ⟨d,q⟩
def ao.pinned{a:7 (mu×Ky)}{σ:St}{H:Hp}{s:pe}{i:7 mu}(I:ao X a σ H s)(y:∀b∈i,cy X a H b)(B:∀b∈i,∃o,s.heap.get? b=!o/\∀v,o.data≠.cell v):ao X (a++ld i s.heap) σ H s:=
 I.pins_of λp hp=>(Jc.mp hp).elim (λz=>I.pin p (xC _ z)) λz=>by
  let(n,e):=yx z;let(q,t,u,_):=y p.1 n;let(o,j,d):=B p.1 n;rw[e]at j;cases j;show ⟨e,q,t,u,d⟩
def ao.unpinned{a pl:7 (mu×Ky)}{σ:St}{H:Hp}{s:pe}(I:ao X (a++pl) σ H s):ao X a σ H s:=I.pins_of λp hp=>I.pin p (xC _ (JD _ hp))
def gS{iter:JF}{A:7 Jt}{wi:TI}{g:TG}{tb:TS}{an:LM}(hp:PassesOwn (model X.prog X.w) X.A X.env X.xe)(hc:X.calm=6)(hi:PI X tg iter wi)(hg:PG X tg g)(p:sX X A tb)
  (hs:∀x,LB iter X.env x=pure x:=by intro _;rfl):PS X (.For tg iter A [] an) (Ih wi g tb):=by
 intro a s σ H D I h;show wpAny_For (aJ (hi a s σ H _ I h) λv s1 h1=>aJ h1 λaA s2 h2=>?_) hs;let(it,E,tn,J,H2,e,I2,T,ap,f2,W,(m0,w0),U):=h2;subst e;have q:∀{z:Hp},(∀b∈E,z b=8)->∀b∈E,cy X a z b:=λhn b p=>{hn b p,(f2 b p).2};show codeAny_forLoop_any (λn s'=>∃i t z,ao X a t z s'/\tn i s'.heap/\(∀b∈E,z b=8)/\W i n t z) ?_ m0 {0,σ,H2,I2,ap,λb p=>(f2 b p).1,w0};rintro n s3 ⟨i,y,H3,I3,Q,M,w3⟩;let(stop,qn)||(go,N,hN,step):=U i n y H3 w3
 ·show K6 hp (aJ (T.done X 9 9 9 hc i a s3 y H3 X.xe I3 (q M) Q stop) λr s4 ⟨hr,I4⟩=>?_)
  subst hr;show Lw ⟨y,H3,I4,qn⟩
 ·show K6 hp (aJ (T.item X 9 9 9 hc i a s3 y H3 X.xe I3 (q M) Q go) λr s4 ⟨u,hr,h4⟩=>?_)
  subst hr;show K6 hp (aJ h4 λ_ s5 ⟨x,H5,I5,r5,y5,C,ac⟩=>?_);have ab:=I5.pinned (q ac) (T.obj _ _ C);show K6 hp (aJ (hg _ s5 y H5 x u _ ab r5 (step x H5 y5)) λ_ s6 ⟨as,H6,I6,q6⟩=>?_);show K6 hp (aJ (p _ s6 as H6 _ I6 q6) λf s7 B=>?_);have again:∀{c:St} {j:Hp},ao X (a++ld E s5.heap) c j s7->N c j->∃m,m<n/\∃i t z,ao X a t z s7/\tn i s7.heap/\(∀b∈E,z b=8)/\W i m t z:=λ{c j} l O=>by
   let(m',hm,w7):=hN c j O;show {m',hm,i+1,c,j,l.unpinned,T.keep _ _ _ C λb p o e=>(l.pin (b,o) (xC _ (xC _ (bO p e)))).1,λb p=>?_,w7};let(o,e,d):=T.obj _ _ C b p;show (l.pin (b,o) (xC _ (xC _ (bO p e)))).2.1
  cases f with
  | next=>let(c,j,l,O):=B;show again l O
  | cont=>let(c,j,l,O):=B;show again l O
  | brk=>let(c,j,l,B):=B;show ⟨c,j,l.unpinned,B⟩
  | ret v=>let(x7,c,j,l,r7,B):=B;show ⟨x7,c,j,l.unpinned,r7,B⟩
end
def aT{K:PySem.W.Frag}{a:mu}{xs:7 V}{g:TG}{l:TS}{D:bN}{σ:St}{H:Hp}(Pv:4->St->Hp->Prop)(n:Pv 0 σ H)(r:∀i σ H,i<=xs.length->Pv i σ H->ak K H a xs)
  (hs:∀i x σ H,xs[i]?=!x->Pv i σ H->g x σ H λd h=>l (D.lp (Pv (i+1))) d h) (o:∀σ H,Pv xs.length σ H->D.nx σ H):
  ∃W:4->4->St->Hp->Prop,(∃m,W 0 m σ H)/\∀i m σ H,W i m σ H->
   ((F4 K a).stop i H/\D.nx σ H)\/((F4 K a).go i H/\∃N:St->Hp->Prop,(∀c b,N c b->∃j,j<m/\W (i+1) j c b)/\∀x b,(F4 K a).yld i H x b->g x σ b λd h=>l { D with nx:=N,ct:=N,bk:=D.nx } d h):=by
 show {λi m σ H=>m=xs.length-i/\i<=xs.length/\Pv i σ H,⟨xs.length,by simp,Jd _,n⟩,?_};rintro i m σ H ⟨rfl,hi,p⟩;have q:=r i σ H hi p
 by_cases f:i<xs.length
 ·show .inr {⟨xs,xs[i],q,by simp[f]⟩,Pv (i+1),λc b s=>{xs.length-(i+1),(),9,f,s},λx b y=>?_}
  let(e,y):=y;subst e;show hs i x σ _ (y xs q) p
 ·have e:i=xs.length:=()
  subst e;show .inl {{xs,q,oN _},o σ H p}
def eJ{lo:3}{n:4}{g:TG}{j:TS}{D:bN}{σ:St}{H:Hp}(Pv:4->St->Hp->Prop)(l:Pv 0 σ H)
  (hs:∀i σ H,i<n->Pv i σ H->g (.int (lo+i)) σ H λd f=>j (D.lp (Pv (i+1))) d f) (o:∀σ H,Pv n σ H->D.nx σ H):
  ∃W:4->4->St->Hp->Prop,(∃m,W 0 m σ H)/\∀i m σ H,W i m σ H->
   ((D2 lo n).stop i H/\D.nx σ H)\/((D2 lo n).go i H/\∃N:St->Hp->Prop,(∀c a,N c a->∃h,h<m/\W (i+1) h c a)/\∀x a,(D2 lo n).yld i H x a->g x σ a λd f=>j { D with nx:=N,ct:=N,bk:=D.nx } d f):=by
 show {λi m σ H=>m=n-i/\i<=n/\Pv i σ H,⟨n,by simp,Jd _,l⟩,?_};rintro i m σ H ⟨rfl,hi,p⟩
 by_cases b:i<n
 ·show .inr {b,Pv (i+1),λc a q=>{n-(i+1),(),9,b,q},λx a y=>?_}
  let(e,y):=y;subst e y;show hs i σ _ b p
 ·have e:i=n:=()
  subst e;show .inl {oN _,o σ H p}
abbrev R2:=V->V->Hp->VK->Prop
def d4(X:Cx)(f:n5->n5->QJ n5)(r:R2):Prop:=
 ∀(a:7 (mu×Ky)) (s:pe) (σ:St) (H:Hp) (x y:V) (v u:n5) (Q:VK),ao X a σ H s->aE x v->aE y u->r x y H Q->
  wpAny (model X.prog X.w) X.A (f v u) (EP X a σ Q) X.xe s
def Ii(X:Cx)(f:n5->QJ n5)(r:V->Hp->VK->Prop):Prop:=
 ∀(a:7 (mu×Ky)) (s:pe) (σ:St) (H:Hp) (x:V) (v:n5) (Q:VK),ao X a σ H s->aE x v->r x H Q->
  wpAny (model X.prog X.w) X.A (f v) (EP X a σ Q) X.xe s
def bq(X:Cx)(f:n5)(r:7 V->Hp->VK->Prop):Prop:=
 ∀(a:7 (mu×Ky)) (s:pe) (σ:St) (H:Hp) (xs:7 V) (us:7 n5) (Q:VK),ao X a σ H s->az xs us->r xs H Q->
  wpAny (model X.prog X.w) X.A (call f us) (EP X a σ Q) X.xe s
def Ij(X:Cx)(r:V->Hp->(Bool->Hp->Prop)->Prop):Prop:=
 ∀(a:7 (mu×Ky)) (s:pe) (σ:St) (H:Hp) (x:V) (v:n5) (Q:Bool->Hp->Prop),ao X a σ H s->aE x v->r x H Q->
  wpAny (model X.prog X.w) X.A (truthy v) (TP X a σ Q) X.xe s
def wc(r:R2)(b c:TE):TE:=λσ H Q=>b σ H λx H1=>c σ H1 λy a=>r x y a Q
def HI(r:V->Hp->VK->Prop)(a:TE):TE:=λσ H Q=>a σ H λx H1=>r x H1 Q
inductive rI(C:3->3->Prop)(g:3->3->V)(x y:V)(H:Hp)(Q:VK):Prop
 | mk (i:_) (j:_):x=.int i->y=.int j->C i j->Q (g i j) H->rI C g x y H Q
inductive zK(g:3->3->V)(x y:V)(H:Hp)(Q:VK):Prop
 | mk (i:_) (j:_):x=.int i->y=.int j->Q (g i j) H->zK g x y H Q
inductive rU(g:3->V)(x:V)(H:Hp)(Q:VK):Prop
 | mk (i:_):x=.int i->Q (g i) H->rU g x H Q
section
variable {X:Cx} {a b c:JF} {ta tb tc:TE} {pos:LM}
def EK(p:PE X a ta)(q:PE X b tb){d:7 (mu×Ky)}{s:pe}{σ:St}{H:Hp}{R:V->V->Hp->Prop}(I:ao X d σ H s)
  (h:ta σ H λx H1=>tb σ H1 λy e=>R x y e) {Q:n5->pe->Prop} {f:n5->n5->QJ n5}
  (r:∀v u l x y e,ao X d σ e l->aE x v->aE y u->R x y e->wpAny (model X.prog X.w) X.A (f v u) Q X.xe l):
  wpAny (model X.prog X.w) X.A (eval a X.env) (λv i=>wpAny (model X.prog X.w) X.A (eval b X.env) (λu j=>wpAny (model X.prog X.w) X.A (f v u) Q X.xe j) X.xe i) X.xe s:=by
 show aJ (p d s σ H _ I h) λv B ⟨x,H1,n,z,q1⟩=>?_;show aJ (q d B σ H1 _ n q1) λu l ⟨y,e,o,A,t⟩=>?_;show r v u l x y e o z A t
def kG{e:Qc}{r:R2}(n:d4 X (KP e) r)(j:PE X a ta)(l:PE X b tb):PE X (.BinOp a e b pos) (wc r ta tb):=by
 intro d s σ H Q I h;show wpAny_BinOp (EK j l I h λv u t x y f i o p q=>n d t σ f x y v u Q i o p q)
def GC{e:UnaryOp}{r:V->Hp->VK->Prop}(j:Ii X (unaryOp e) r)(i:PE X a ta):PE X (.UnaryOp e a pos) (HI r ta):=by
 intro d s σ H Q I h;show UnaryOp_ (aJ (i d s σ H _ I h) λv n ⟨x,H1,f,l,q1⟩=>j d n σ H1 x v Q f l q1)
def HJ{f:n5->n5->QJ n5}{C:3->3->Prop}{g:3->3->3}
  (rule:∀(i j:3) (t u:Tok) (s:pe) (Q:n5->pe->Prop) (E:n5->pe->Prop),C i j->Q (.int (g i j) s.toks) { s with toks:=s.toks+1 }->wpAny (model X.prog X.w) X.A (f (.int i t) (.int j u)) Q E s):
  d4 X f (rI C λi j=>.int (g i j)):=by
 intro d s σ H x y v u Q I e l h;let(i,j,9,9,hc,q):=h;let(t,9):=e;let(t',9):=l;show rule i j t t' s _ _ hc {.int (g i j),H,I.tok _,{_,9},q}
def GD{f:n5->n5->QJ n5}{g:3->3->3}
  (rule:∀(i j:3) (t u:Tok) (s:pe) (Q:n5->pe->Prop) (E:n5->pe->Prop),Q (.int (g i j) s.toks) { s with toks:=s.toks+1 }->wpAny (model X.prog X.w) X.A (f (.int i t) (.int j u)) Q E s):
  d4 X f (zK λi j=>.int (g i j)):=by
 intro d s σ H x y v u Q I e l h;let(i,j,9,9,q):=h;let(t,9):=e;let(t',9):=l;show rule i j t t' s _ _ {.int (g i j),H,I.tok _,{_,9},q}
def Ck{f:n5->n5->QJ n5}{g:3->3->Bool}
  (rule:∀(i j:3) (t u:Tok) (s:pe) (Q:n5->pe->Prop) (E:n5->pe->Prop),Q (.bool (g i j)) s->wpAny (model X.prog X.w) X.A (f (.int i t) (.int j u)) Q E s):
  d4 X f (zK λi j=>.bl (g i j)):=by
 intro d s σ H x y v u Q I e l h;let(i,j,9,9,q):=h;let(t,9):=e;let(t',9):=l;show rule i j t t' s _ _ {.bl (g i j),H,I,9,q}
def GE(i j:3):Prop:=0<j/\j<1073741824
def Ik(i j:3):Prop:=0<=j/\j<=1000000/\i.natAbs<2^64
def Cm(i j:3):Prop:=(-(2^64)<i/\i<2^64)\/(-(2^64)<j/\j<2^64)
def Cm.ok{i j:3}(h:Cm i j):IntMulOk i j:=by
 let(e,n)||(e,n):=h
 ·show .of_left (intBits_le_64 e n)
 ·show .of_right (intBits_le_64 e n)
def EL:d4 X (KP .Add) (zK λi j=>.int (i+j)):=GD λ_ _ _ _ _ _ _ q=>add_int q
def EM:d4 X (KP .Sub) (zK λi j=>.int (i-j)):=GD λ_ _ _ _ _ _ _ q=>sub_int q
def EN:d4 X (KP .Mult) (rI Cm λi j=>.int (i*j)):=HJ λ_ _ _ _ _ _ _ hc q=>mul_int q hc.ok
def Cn:d4 X (KP .FloorDiv) (rI GE λi j=>.int (i/j)):=HJ λi j _ _ _ _ _ hc q=>by
 have d:(0:3)<j:=hc.1;have e:j<1073741824:=hc.2;show floordiv_int () (by rw[Int.fdiv_eq_ediv_of_nonneg i ()];show q) (.inl (Ov ()))
def EO:d4 X (KP .Mod) (rI (λ_ j=>0<j) λi j=>.int (i%j)):=HJ λi j _ _ _ _ _ hc q=>by
 have d:(0:3)<j:=hc;show mod_int' () (by rw[Int.fmod_eq_emod_of_nonneg i ()];show q)
def EQ:d4 X (KP .Pow) (rI Ik λi j=>.int (i^j.toNat)):=HJ λ_ _ _ _ _ _ _ hc q=>pow_int_small hc.1 hc.2.1 hc.2.2 q
def IT{f:n5->QJ n5}{g:3->3}
  (rule:∀(i:3) (t:Tok) (s:pe) (Q:n5->pe->Prop) (E:n5->pe->Prop),Q (.int (g i) s.toks) { s with toks:=s.toks+1 }->wpAny (model X.prog X.w) X.A (f (.int i t)) Q E s):
  Ii X f (rU λi=>.int (g i)):=by
 intro d s σ H x v Q I e h;let(i,9,q):=h;let(t,9):=e;show rule i t s _ _ {.int (g i),H,I.tok _,{_,9},q}
def ER:Ii X (unaryOp .USub) (rU λi=>.int (-i)):=IT λ_ _ _ _ _ q=>neg_int q
end
def GF:V->V->Bool
 | .non,.non=>6 | .non,.int _=>6 | .int _,.non=>6 | .non,.bl _=>6 | .bl _,.non=>6 | .non,.str _=>6 | .str _,.non=>6
 | .int _,.int _=>6 | .bl _,.bl _=>6 | .str _,.str _=>6 | .byt _,.byt _=>6
 | .int _,.str _=>6 | .str _,.int _=>6 | .bl _,.str _=>6 | .str _,.bl _=>6
 | _,_=>5
inductive Il  (x y:V) (H:Hp) (Q:VK):Prop
 | mk :GF x y=6->Q (.bl (decide (x=y))) H->Il  x y H Q
inductive Im  (x y:V) (H:Hp) (Q:VK):Prop
 | mk :GF x y=6->Q (.bl ((not (decide (x=y))))) H->Im  x y H Q
def we{i j:3}:decide (V.int i=V.int j)=(i==j):=by
 rw[JO];simp
def zY{i j:Bool}:decide (V.bl i=V.bl j)=(i==j):=by
 rw[JO];simp
def wf{i j:xD}:decide (V.str i=V.str j)=(i==j):=by
 rw[JO];simp
def wj{i j:Array UInt8}:decide (V.byt i=V.byt j)=(i.toList==j.toList):=by
 rw[JO];cases i;cases j;simp
section
variable {X:Cx} {a b c:JF} {ta tb tc:TE} {pos:LM}
def aQ{d:7 (mu×Ky)}{σ:St}{H:Hp}{s:pe}{Q:VK}{k k':Bool}(I:ao X d σ H s)(q:Q (.bl k) H)(e:k=k'):EP X d σ Q (.bool k') s:=by
 subst e;show {.bl k,H,I,9,q}
def GG:d4 X (JX .Eq) Il:=by
 intro f s σ H x y v u Q I e d h;let(hs,q):=h;cases x with
 | non=>
  cases e;cases y with
  | non=>cases d;show PySem.EqNone.eq_none_none (aQ I q (by simp))
  | bl j=>cases d;show PySem.EqNone.eq_none_bool (aQ I q (by simp))
  | int j=>let(t',9):=d;show PySem.EqNone.eq_none_int (aQ I q (by simp))
  | str j=>let(t',9):=d;show PySem.EqNone.eq_none_str (aQ I q (by simp))
  | _=>show absurd (show 5=6 from hs) t7
 | bl i=>
  cases e;cases y with
  | non=>cases d;show PySem.EqNone.eq_bool_none (aQ I q (by simp))
  | bl j=>cases d;show eq_bool (aQ I q zY)
  | str j=>let(t',9):=d;show PySem.EqMixed.eq_bool_str (aQ I q (by simp))
  | _=>show absurd (show 5=6 from hs) t7
 | int i=>
  let(t,9):=e;cases y with
  | non=>cases d;show PySem.EqNone.eq_int_none (aQ I q (by simp))
  | int j=>let(t',9):=d;show eq_int (aQ I q we)
  | str j=>let(t',9):=d;show PySem.EqMixed.eq_int_str (aQ I q (by simp))
  | _=>show absurd (show 5=6 from hs) t7
 | str i=>
  let(t,9):=e;cases y with
  | non=>cases d;show PySem.EqNone.eq_str_none (aQ I q (by simp))
  | bl j=>cases d;show PySem.EqMixed.eq_str_bool (aQ I q (by simp))
  | int j=>let(t',9):=d;show PySem.EqMixed.eq_str_int (aQ I q (by simp))
  | str j=>let(t',9):=d;show eq_str (aQ I q wf)
  | _=>show absurd (show 5=6 from hs) t7
 | byt i=>
  let(t,9):=e;cases y with
  | byt j=>let(t',9):=d;show PySem.W.eq_bytes (aQ I q wj)
  | _=>show absurd (show 5=6 from hs) t7
 | _=>cases y<;>show absurd (show 5=6 from hs) t7
def GH:d4 X (JX .NotEq) Im:=by
 intro f s σ H x y v u Q I e d h;let(hs,q):=h;cases x with
 | non=>
  cases e;cases y with
  | non=>cases d;show PySem.EqNone.ne_none_none (aQ I q (by simp))
  | bl j=>cases d;show PySem.EqNone.ne_none_bool (aQ I q (by simp))
  | int j=>let(t',9):=d;show PySem.EqNone.ne_none_int (aQ I q (by simp))
  | str j=>let(t',9):=d;show PySem.EqNone.ne_none_str (aQ I q (by simp))
  | _=>show absurd (show 5=6 from hs) t7
 | bl i=>
  cases e;cases y with
  | non=>cases d;show PySem.EqNone.ne_bool_none (aQ I q (by simp))
  | bl j=>cases d;show ne_bool (aQ I q (congrArg not zY))
  | str j=>let(t',9):=d;show PySem.EqMixed.ne_bool_str (aQ I q (by simp))
  | _=>show absurd (show 5=6 from hs) t7
 | int i=>
  let(t,9):=e;cases y with
  | non=>cases d;show PySem.EqNone.ne_int_none (aQ I q (by simp))
  | int j=>let(t',9):=d;show ne_int (aQ I q (congrArg not we))
  | str j=>let(t',9):=d;show PySem.EqMixed.ne_int_str (aQ I q (by simp))
  | _=>show absurd (show 5=6 from hs) t7
 | str i=>
  let(t,9):=e;cases y with
  | non=>cases d;show PySem.EqNone.ne_str_none (aQ I q (by simp))
  | bl j=>cases d;show PySem.EqMixed.ne_str_bool (aQ I q (by simp))
  | int j=>let(t',9):=d;show PySem.EqMixed.ne_str_int (aQ I q (by simp))
  | str j=>let(t',9):=d;show ne_str (aQ I q (congrArg not wf))
  | _=>show absurd (show 5=6 from hs) t7
 | byt i=>
  let(t,9):=e;cases y with
  | byt j=>let(t',9):=d;show PySem.W.ne_bytes (aQ I q (congrArg not wj))
  | _=>show absurd (show 5=6 from hs) t7
 | _=>cases y<;>show absurd (show 5=6 from hs) t7
def cL:d4 X (JX .Lt) (zK λi j=>.bl (decide (i<j))):=Ck λ_ _ _ _ _ _ _ q=>lt_int q
def wk:d4 X (JX .LtE) (zK λi j=>.bl (decide (i<=j))):=Ck λ_ _ _ _ _ _ _ q=>le_int q
def D3:d4 X (JX .Gt) (zK λi j=>.bl (decide (j<i))):=Ck λ_ _ _ _ _ _ _ q=>gt_int q
def D4:d4 X (JX .GtE) (zK λi j=>.bl (decide (j<=i))):=Ck λ_ _ _ _ _ _ _ q=>ge_int q
def d4.or{f:n5->n5->QJ n5}{r i:R2}(h:d4 X f r)(h':d4 X f i):d4 X f (λx y H Q=>r x y H Q\/i x y H Q):=by
 intro e s σ H x y v u Q I j n q;let q||q:=q
 ·show h e s σ H x y v u Q I j n q
 ·show h' e s σ H x y v u Q I j n q
def bH(b:JF){d:CmpOp}(h:d≠.In:=by decide)(i:d≠.NotIn:=by decide):behindInMarks d b=5:=by
 have e:(d==CmpOp.In)=5:=by cases d<;>first | rfl | show absurd 9 h
 have f:(d==CmpOp.NotIn)=5:=by cases d<;>first | rfl | show absurd 9 i
 cases b<;>simp[behindInMarks,e,f]
def fw{e:CmpOp}{r:R2}(o:d4 X (JX e) r)(j:PE X a ta)(l:PE X b tb)(n:behindInMarks e b=5):PE X (.Compare a [e] [b] pos) (wc r ta tb):=by
 intro d s σ H Q I h;show wpAny_Compare1 (EK j l I h λv u z x y f i p t q=>o d z σ f x y v u Q i p t q) n
def D5(t:TE):TT:=λσ H Q=>t σ H λx d=>iB x d Q
def cu{f:CmpOp}{r:R2}(A:d4 X (JX f) r)(p:PE X a ta)(q:PE X b tb)(t:behindInMarks f b=5):PT X (.Compare a [f] [b] pos) (D5 (wc r ta tb)):=by
 intro d s σ H Q I h;show wpAny_isTrue_Compare1 (aJ (p d s σ H _ I h) λv N ⟨x,H1,l,D,q1⟩=>aJ (q d N σ H1 _ l q1) λu O ⟨y,i,n,E,B⟩=>
  aJ (A d O σ i x y v u _ n D E B) λc T ⟨z,j,o,M,k,e,C⟩=>?_) t
 subst e;cases M;show JQ ⟨j,o,C⟩
def uZ(r h:R2)(ta tb tc:TE):TE:=λσ H Q=>ta σ H λx H1=>tb σ H1 λy e=>r x y e λz d=>∃k,z=.bl k /\
 (if k=6 then tc σ d λw' f=>h y w' f Q else Q (.bl 5) d)
def zZ{l i:CmpOp}{r q:R2}(T:d4 X (JX l) r)(j:d4 X (JX i) q)(M:PE X a ta)(N:PE X b tb)(hc:PE X c tc)
  (O:lastMarks [l,i] [b,c]=5:=by with_unfolding_all rfl):PE X (.Compare a [l,i] [b,c] pos) (uZ r q ta tb tc):=by
 intro f s σ H Q I h;show Compare_chain (aJ (M f s σ H _ I h) λv s1 ⟨x,H1,C,r1,q1⟩=>chain_link (aJ (N f s1 σ H1 _ C q1) λu s2 ⟨y,A,D,t,U⟩=>
  aJ (T f s2 σ A x y v u _ D r1 t U) λd s3 ⟨z,n,o,r3,k,e,p⟩=>?_)) O
 subst e;cases r3;show JQ ?_;cases k with
 | false=>show ite_ff ⟨.bl 5,n,o,9,p⟩
 | true=>show ite_tt (chain_last (aJ (hc f s3 σ n _ o p) λw' s4 ⟨z',B,E,r4,q4⟩=>j f s4 σ B y z' u w' Q E t r4 q4))
def Aa{l i:CmpOp}{r q:R2}(ho:d4 X (JX l) r)(j:d4 X (JX i) q)(U:PE X a ta)(hb:PE X b tb)(hc:PE X c tc)
  (hm:lastMarks [l,i] [b,c]=5:=by with_unfolding_all rfl):PT X (.Compare a [l,i] [b,c] pos) (D5 (uZ r q ta tb tc)):=by
 intro f s σ H Q I h;show isTrue_chain (aJ (U f s σ H _ I h) λv s1 ⟨x,H1,D,r1,q1⟩=>test_link (aJ (hb f s1 σ H1 _ D q1) λu s2 ⟨y,A,E,t,q2⟩=>
  aJ (ho f s2 σ A x y v u _ E r1 t q2) λd s3 ⟨z,n,o,r3,k,e,p⟩=>?_)) hm
 subst e;cases r3;show JQ ?_;cases k with
 | false=>
  let(k',O,q'):=p;cases O;show ite_ff ⟨n,o,q'⟩
 | true=>
  show ite_tt (test_last (aJ (hc f s3 σ n _ o p) λw' s4 ⟨z',B,M,r4,q4⟩=>aJ (j f s4 σ B y z' u w' _ M t r4 q4) λd' s5 ⟨z2,C,N,r5,k2,T,q5⟩=>?_));subst T;cases r5;show JQ ⟨C,N,q5⟩
def GI(K:PySem.W.Frag)(x:V)(H:Hp)(k:Bool):Prop:=
 match x with
 | .non=>k=5
 | .bl b=>k=b
 | .int i=>k=(i != 0)
 | .str y=>y.length<=sizeLine/\k=((y.length:3) != 0)
 | .byt y=>y.size<=sizeLine/\k=((y.size:3) != 0)
 | .ref p=>(∃xs,ak K H p xs/\k=(not xs.isEmpty))\/(∃xs,b9 K H p xs/\k=(not xs.isEmpty))\/∃d,H p=!.dK d/\k=(not d.isEmpty)
 | _=>False
def u7{e:Type}{d:7 (e×V)}{vs:7 (e×n5)}(r:KV d vs):((not vs.isEmpty))=(not d.isEmpty):=by
 cases r<;>rfl
def o4{xs:7 V}{its:7 n5}(r:az xs its):((not its.toArray.isEmpty))=(not xs.isEmpty):=by
 cases r<;>simp
def o5:(sizeLine:4)<2^63:=by rw[JU];decide
def ES:Ij X (λx H Q=>∃k,GI X.K x H k/\Q k H):=by
 intro u s σ H x v Q I l h;let(k,e,q):=h;have B:=o5;have hs:sizeLine=16777216:=JU;cases x with
 | non=>
  cases l;have d:k=5:=e;subst d;show truthy_none ⟨H,I,q⟩
 | bl b=>
  cases l;have d:k=b:=e;subst d;show JQ ⟨H,I,q⟩
 | int i=>
  let(t,9):=l;have d:k=(i != 0):=e;subst d;show PySem.P.truthy_int ⟨H,I,q⟩
 | str y=>
  let(t,9):=l;let(A,d):y.length<=sizeLine/\k=((y.length:Int) != 0):=e;subst d;show PySem.P.truthy_str () {H,I.tok _,q}
 | byt y=>
  let(t,9):=l;let(A,d):y.size<=sizeLine/\k=((y.size:Int) != 0):=e;subst d;show PySem.W.truthy_bytes () {H,I.tok _,q}
 | ref p=>
  cases l;have d:(∃xs,ak X.K H p xs/\k=(not xs.isEmpty))\/(∃xs,b9 X.K H p xs/\k=(not xs.isEmpty))\/∃f,H p=!.dK f/\k=(not f.isEmpty):=e;let(xs,n,d)||(xs,n,d)||(f,n,d):=d
  ·subst d
   let(its,r,pl,o):=I.list n;have j:=r.length;show wpAny_truthy_list pl.isList (by simp only[y9];omega) ⟨H,I.tok _,by rw[o4 r];show q⟩
  ·subst d
   let(its,r,pl,o):=I.tuple n;have j:=r.length;show truthy_tuple pl (by simp only[y9];omega) ⟨H,I.tok _,by rw[o4 r];show q⟩
  ·subst d
   let(o,z,vs,r,m):f.length<=sizeLine/\(p==Lq)=false/\∃vs,KV f vs/\s.heap.DictOf (bJ X.prog X.w) p vs:=I.hok p _ n;have j:f.length=vs.length:=Paired.length r;show wpAny_truthy_dict z m () ⟨H,I.tok _,by rw[u7 r];show q⟩
 | _=>show (show False from e).elim
inductive Io(K:PySem.W.Frag)(x:V)(H:Hp)(Q:Bool->Hp->Prop):Prop
 | mk (k:_):GI K x H k->Q k H->Io K x H Q
def Ab(j:PE X a ta)(l:∀d,isTrue a X.env d=(do let v <- d;standAt a.pos;holding [v] (truthy v))):
  PT X a (λσ H Q=>ta σ H λx f=>Io X.K x f Q):=by
 intro e s σ H Q I h;show isTrue_plain (aJ (j e s σ H _ I h) λv o ⟨x,H1,i,n,q1⟩=>ES e o σ H1 x v Q i n (by let(k,a,b):=q1;show ⟨k,a,b⟩)) (l _)
def u8:d4 X (KP .Add) (λx y H Q=>∃i j,x=.str i/\y=.str j/\i.length+j.length<=sizeLine/\Q (.str (i++j)) H):=by
 intro d s σ H x y v u Q I f l h;let(i,j,9,9,e,q):=h;let(t,9):=f;let(t',9):=l;show add_str (λt' n=>{.str (i++j),H,I.tok _,{_,9},q}) e
def gj{x:V}{us:7 n5}(r:az [x] us):∃u,us=[u]/\aE x u:=by
 cases r with
 | cons d e=>cases e;show {_,9,d}
def tI{x y:V}{us:7 n5}(r:az [x,y] us):∃u w',us=[u,w']/\aE x u/\aE y w':=by
 cases r with
 | cons d e=>
  cases e with
  | cons f h=>cases h;show {_,_,9,d,f}
def yy(hc:X.calm=6):bq X (.builtin "max") (λxs H Q=>∃i j,xs=[.int i,.int j]/\Q (.int (if j>i then j else i)) H):=by
 intro e s σ H xs us Q I r h;let(i,j,9,q):=h;let(u,w',9,(t,9),(t',9)):=tI r;show max_two_ints (I.ok.hd hc) λh' f k=>{_,H,I.kept k,?_,q}
 by_cases d:j>i
 ·rw[if_pos d,if_pos d];show {_,9}
 ·rw[if_neg d,if_neg d];show {_,9}
def yz(hc:X.calm=6):bq X (.builtin "min") (λxs H Q=>∃i j,xs=[.int i,.int j]/\Q (.int (if j<i then j else i)) H):=by
 intro e s σ H xs us Q I r h;let(i,j,9,q):=h;let(u,w',9,(t,9),(t',9)):=tI r;show min_two_ints (I.ok.hd hc) λh' f k=>{_,H,I.kept k,?_,q}
 by_cases d:j<i
 ·rw[if_pos d,if_pos d];show {_,9}
 ·rw[if_neg d,if_neg d];show {_,9}
def yB:bq X (.type "int") (λxs H Q=>(∃i,xs=[.int i]/\Q (.int i) H)\/∃k,xs=[.bl k]/\Q (.int (if k then 1 else 0)) H):=by
 intro d s σ H xs us Q I r h;let(i,9,q)||(k,9,q):=h
 ·let(u,9,t,9):=gj r
  show call_int_int {.int i,H,I,{_,9},q}
 ·let(u,9,e):=gj r
  cases e;show call_int_bool {.int (if k then 1 else 0),H,I.tok _,{_,9},q}
def GJ(K:PySem.W.Frag)(x:V)(H:Hp)(n:4):Prop:=
 match x with
 | .str y=>y.length<=sizeLine/\n=y.length
 | .byt y=>y.size<=sizeLine/\n=y.size
 | .ref p=>(∃xs,ak K H p xs/\n=xs.length)\/∃xs,b9 K H p xs/\n=xs.length
 | _=>False
def Ac:bq X (.builtin "len") (λxs H Q=>∃x n,xs=[x]/\GJ X.K x H n/\Q (.int n) H):=by
 intro o s σ H xs us Q I r h;let(x,n,9,e,q):=h;let(u,9,l):=gj r;have A:=o5;have hs:sizeLine=16777216:=JU;cases x with
 | str y=>
  let(t,9):=l;let(v,f):y.length<=sizeLine/\n=y.length:=e;subst f;show len_str () {.int _,H,I.tok _,{_,9},q}
 | byt y=>
  let(t,9):=l;let(v,f):y.size<=sizeLine/\n=y.size:=e;subst f;show PySem.W.len_bytes () {.int _,H,I.tok _,{_,9},q}
 | ref p=>
  cases l;have f:(∃xs,ak X.K H p xs/\n=xs.length)\/∃xs,b9 X.K H p xs/\n=xs.length:=e;let(xs,i,f)||(xs,i,f):=f
  ·subst f
   let(its,j,pl,z):=I.list i;have d:=j.length;show Calls.call_len_list pl.isList (by simp only[y9];omega) ⟨.int xs.length,H,I.tok _,⟨_,by simp only[y9];rw[d]⟩,q⟩
  ·subst f
   let(its,j,pl,z):=I.tuple i;have d:=j.length;show len_tuple pl (by simp only[y9];omega) ⟨.int xs.length,H,I.tok _,⟨_,by simp only[y9];rw[d]⟩,q⟩
 | _=>show (show False from e).elim
end
structure u9(h:Jz)(x dx C:mu)(mA:xD->Option n5):Prop where
 obj:h.get? x=!Oq C dx
 ns:h.Ns1 dx mA
 ne:dx≠x
def yC{h:Jz}{c:mu}{f:xD->Option n5}(n:h.Ns1 c f):∃od,h.get? c=!od/\∀name,lookIn name od=!f name:=by
 let(o,d,u,r,j,l,_,p):=n;show {o,r,λname=>?_};have e:=p name;unfold nsFind findBy at e;rw[<- Nx]at e;unfold lookIn;rw[j];dsimp only
 split
 ·rename_i y q
  rw[q]at e;show congrArg some e
 ·rename_i q
  rw[q]at e;have a:d.toList.any (·.refKey)=5:=by
   rw[List.any_eq_false];intro y s;let(z,t,b):=l y (Array.mem_toList_iff.mp s);simp[DictEntry.refKey,b]
  have i:¬ d.toList.any (·.refKey)=6:=by rw[a];show t7
  rw[if_neg i];show congrArg some e
def u9.look{h:Jz}{x a C:mu}{b:xD->Option n5}(I:u9 h x a C b):∃od,PySem.W.InstAt h x (Oq C a) C (!od)/\∀name,lookIn name od=!b name:=
 let ⟨od,i,e⟩:=yC I.ns
 {od,⟨I.obj,9,9,i⟩,e}
section
variable {prog:IY} {w:Je} {A:Jq} {E:n5->pe->Prop} {s:pe} {K:PySem.W.Frag} {x dx C f:mu} {mA:xD->Option n5} {name:xD} {v:n5}
def Co{a:Bool}{Q:n5->pe->Prop}(X:K.In s.heap)(I:u9 s.heap x dx C mA)(d:plainGet K C name=6)(e:PySem.W.hasDictIn K C=6)
  (c:PySem.W.findIn K (.ref C) name=!8) (j:mA name=!v) (b:PySem.W.handedIn v=6) (h:Q v { s with toks:=s.toks+1 }):
  wpAny (model prog w) A (getAttr (.ref x) name a) Q E s:=by
 let(od,J,i):=I.look;show PySem.W.get_value X J (PySem.W.plainGet_of d).1 (PySem.W.findObj_own e c 9 (by rw[i,j])) b h
def Ad{pl:QJ Bool}{Q:n5×7 n5->pe->Prop}(X:K.In s.heap)(I:u9 s.heap x dx C mA)(a:plainGet K C name=6)
  (b:PySem.W.findIn K (.ref C) name=!!.ref f) (d:isFn K (.ref f)=6) (e:mA name=8) (h:Q (.ref f,[.ref x]) s):
  wpAny (model prog w) A (getMethod (.ref x) name pl) Q E s:=by
 let(od,J,c):=I.look;show PySem.W.method_fn X J (PySem.W.plainGet_of a).1 (PySem.W.plainGet_of a).2 b (beq_iff_eq.mp d) (by show (lookIn name od).map (·.isSome)=!5;rw[c,e];rfl) h
def Cp{ns:7 xD}{Q:Unit->pe->Prop}(X:K.In s.heap)(I:u9 s.heap x dx C mA)
  (hs:PySem.W.findIn K (.ref C) "__setattr__"=!!.builtin "object.__setattr__") (hp:PySem.W.plainOver K C=6) (q:PySem.W.takerIn K C name=!8) (p:PySem.W.hasDictIn K C=6)
  (hw:PySem.Within mA ns) (hsz:ns.length<=sizeLine)
  (h:∀h',u9 h' x dx C (λy=>if y=name then some v else mA y)->Np dx s.heap h'->Q Jr { s with heap:=h',toks:=s.toks+2 }):
  wpAny (model prog w) A (setAttr (.ref x) name v) Q E s:=by
 let(od,J,z):=I.look;show PySem.W.set_plain X J hs (PySem.W.osa_open (s:={ s with toks:=s.toks+1 }) (r:=8) X J hp q λb=>?_);let(u,hc,i):=PySem.W.any_some p;have t:s.heap.get? x=some {.ref C,!dx,.plain,#[]}:=I.obj;show mi (ri (mi (mi (OW t (mi (PySem.W.Looks.here (s:={ s with toks:=s.toks+1 }) (PySem.W.looks_clsIn X hc) ?_))))));rw[i];show ri (a:=!dx) (mi (ri (mi ?_)));show wpAny_nsSet1 (s:={ s with toks:=s.toks+1 }) I.ns λh' c d=>?_;let(B,o,n,l,j,e):=c.count (PySem.Within.cons name v hw)
 show mi (wpAny_lookBehind l (by rw[j];show pastItsLine_dict (xM e (by rw[vl];omega))) ?_);show ri (h _ {(d.2 _ (JP I.ne)).trans I.obj,c,I.ne} d)
def Ae{R:PJ->pe->Prop}{vs:7 n5}{b:7 (xD×n5)}(X:K.In s.heap)(e:PySem.W.makesIn K C=6)
  (hi:PySem.W.findIn K (.ref C) "__init__"=!!.ref f) (c:PySem.W.typeIn K (.ref f)=!.type "function")
  (h:K0 (model prog w) (A.under (.builtin "type.__call__" {.ref C::vs,b})) (.call (.ref f) {.ref (↑s+1)::vs,b}) (PySem.W.InitBack (↑s+1) R)
   { s with heap:=(s.heap.push Mn).push (Oq C ↑s) }):
  K0 (model prog w) A (.call (.ref C) ⟨vs,b⟩) R s:=by
 let(i,g,d,t,os):=s;show PySem.W.make_core (PySem.W.makes_of X e) (PySem.W.looks_findIn X hi) (λa=>PySem.W.bind_fn X a c) (.inl 9) h
end
def aZ(f:xD)(v:V):7 (xD×V)->7 (xD×V)
 | []=>[(f,v)]
 | (g,x)::r=>if g=f then (g,v)::r else (g,x)::aZ f v r
def nD(f g:xD)(v:V):∀fs:7 (xD×V),(aZ f v fs).lookup g=if g=f then some v else fs.lookup g
 | []=>by
  show La g [(f,v)]=_
  by_cases h:g=f
  ·have a:(g==f)=6:=beq_iff_eq.mpr h
   simp only[La,a,if_pos h]
  ·have a:(g==f)=5:=beq_eq_false_iff_ne.mpr h
   simp only[La,a,if_neg h]
 | (k,x)::r=>by
  have c:=nD f g v r;rw[show aZ f v ((k,x)::r)=(if k=f then (k,v)::r else (k,x)::aZ f v r) from 9]
  by_cases b:k=f
  ·rw[if_pos b]
   by_cases h:g=k
   ·have a:(g==k)=6:=beq_iff_eq.mpr h
    simp only[La,a,if_pos (h.trans b)]
   ·have a:(g==k)=5:=beq_eq_false_iff_ne.mpr h
    simp only[La,a,if_neg (λe:g=f=>h (e.trans b.symm))]
  ·rw[if_neg b]
   by_cases h:g=k
   ·have a:(g==k)=6:=beq_iff_eq.mpr h
    simp only[La,a,if_neg (λe:g=f=>b (h.symm.trans e))]
   ·have a:(g==k)=5:=beq_eq_false_iff_ne.mpr h
    simp only[La,a];show c
def mM(f:xD)(v:V):∀fs:7 (xD×V),f∈(aZ f v fs).map (·.1)/\∀g,g∈fs.map (·.1)->g∈(aZ f v fs).map (·.1)
 | []=>⟨by simp[aZ],λg h=>by simp at h⟩
 | (k,x)::r=>by
  let(i1,b):=mM f v r;rw[show aZ f v ((k,x)::r)=(if k=f then (k,v)::r else (k,x)::aZ f v r) from 9]
  by_cases a:k=f
  ·rw[if_pos a]
   subst a;show ⟨by simp,λg h=>by simpa using h⟩
  ·rw[if_neg a]
   show {?_,λg h=>?_}
   ·rw[KH]
    show wh _ i1
   ·rw[KH]at h ⊢
    let e||e:=Jb.mp h
    ·show Jb.mpr (.inl e)
    ·show wh _ (b g e)
def nE(f:xD)(v:V):∀fs:7 (xD×V),(aZ f v fs).length<=fs.length+1
 | []=>by simp[aZ]
 | (k,x)::r=>by
  have b:=nE f v r;rw[show aZ f v ((k,x)::r)=(if k=f then (k,v)::r else (k,x)::aZ f v r) from 9]
  by_cases a:k=f
  ·rw[if_pos a,vl,vl];omega
  ·rw[if_neg a,vl,vl];omega
def iQ.some_of{v:V}{o:Option n5}(r:iQ (!v) o):∃u,o=!u/\aE v u:=by
 cases o with
 | none=>show (show False from r).elim
 | some u=>show ⟨u,9,r⟩
def iQ.none_of{o:Option n5}(r:iQ 8 o):o=8:=by
 cases o with
 | none=>rfl
 | some u=>show (show False from r).elim
def yD{v:V}{u:n5}(r:aE v u):PySem.W.handedIn u=6:=by
 cases v with
 | non=>cases (show u=Kp from r);rfl
 | bl b=>cases (show u=PH b from r);rfl
 | int i=>let(t,e):=(show ∃t,u=Nt i t from r);cases e;rfl
 | str x=>let(t,e):=(show ∃t,u=O9 x t from r);cases e;rfl
 | byt b=>let(t,e):=(show ∃t,u=Value.bytes b t from r);cases e;rfl
 | flt b=>let(t,e):=(show ∃t,u=Qy b t from r);cases e;rfl
 | ref a=>cases (show u=Ja a from r);rfl
 | ty n=>cases (show u=Nu n from r);rfl
section
variable {P:IY} {w:Je} {H H':Hp} {h h':Jz} {a C dx:mu} {fs fs':7 (xD×V)}
def oH(c:iP P w H h)(e:H a=!.ins C dx fs):∃b,u9 h a dx C b/\(∀f,iQ (fs.lookup f) (b f))/\PySem.Within b (fs.map (·.1))/\fs.length<=1000/\H dx=!.own a:=by
 let(d,z,i,j,b,n,r,q):=(show aS P w H h a (.ins C dx fs) from c a _ e);show {b,⟨j,n,i⟩,r,q,z,d}
end
def nt.get{K:PySem.W.Frag}{C:mu}(c:nt K C)(f:xD):plainGet K C f=6:=c.pg
def aF.taker{K:PySem.W.Frag}{C:mu}{f:xD}(n:aF K C f):PySem.W.takerIn K C f=!8:=by
 unfold PySem.W.takerIn;rw[show PySem.W.findIn K (.ref C) f=some 8 from n];rfl
section
variable {X:Cx} {pins:7 (mu×Ky)} {σ:St} {H:Hp} {s:pe} {a C dx:mu} {fs:7 (xD×V)} {f:xD} {v:V} {A:Jq} {E:n5->pe->Prop}
def o6{b:Bool}{Q:n5->pe->Prop}(I:ao X pins σ H s)(e:H a=!.ins C dx fs)(c:nt X.K C)(n:aF X.K C f)(l:fs.lookup f=!v)
  (h:∀u s',ao X pins σ H s'->aE v u->Q u s'):wpAny (model X.prog X.w) A (getAttr (.ref a) f b) Q E s:=by
 let(j,O,r,_,_,_):=oH I.hok e;let(u,i,d):=iQ.some_of (v:=v) (o:=j f) (by rw[<- l];show r f);show Co I.kIn O (c.get f) c.hd n i (yD d) (h u _ (I.tok _) d)
def lf{m:xD}{g:mu}{pl:QJ Bool}{Q:n5×7 n5->pe->Prop}(I:ao X pins σ H s)(e:H a=!.ins C dx fs)(c:nt X.K C)(k:zM X.K C m g)(l:fs.lookup m=8)
  (h:Q (.ref g,[.ref a]) s):wpAny (model X.prog X.w) A (getMethod (.ref a) m pl) Q E s:=by
 let(d,O,r,_,_,_):=oH I.hok e;have b:d m=8:=iQ.none_of (by rw[<- l];show r m);show Ad I.kIn O (c.get m) k.at_ k.fn b h
def o7{y:V}{u:n5}{Q:Unit->pe->Prop}(I:ao X pins σ H s)(e:H a=!.ins C dx fs)(c:nt X.K C)(n:aF X.K C f)(U:fs.length<1000)(N:aE y u)
  (h:∀s',ao X pins σ (upd H a (.ins C dx (aZ f y fs))) s'->Q Jr s'):wpAny (model X.prog X.w) A (setAttr (.ref a) f u) Q E s:=by
 let(j,O,r,l,_,i):=oH I.hok e;have M:(fs.map (·.1)).length<=sizeLine:=by rw[lj,JU];omega
 show Cp I.kIn O c.sa c.po n.taker c.hd l M λh' d T=>h _ ?_;have B:∃o,h'.get? dx=!o:=let ⟨o,_,_,p,_⟩:=d.ns;⟨o,p⟩;show I.write (x:=a) (e:=dx) (by rw[e];show KW) (.inr i) (λb q t z=>(T.2 b t).trans z) B ?_;show ⟨by rw[af O.ne];show i,?_,O.ne,d.obj,_,d.ns,λg=>?_,λg D=>?_⟩
 ·have:=nE f y fs;omega
 ·show iQ ((aZ f y fs).lookup g) (if g=f then some u else j g)
  rw[nD]
  by_cases q:g=f
  ·rw[if_pos q,if_pos q];show N
  ·rw[if_neg q,if_neg q];show r g
 ·by_cases q:g=f
  ·rw[q];show (mM f y fs).1
  ·show (mM f y fs).2 g (l g λz=>D ?_)
   show (if g=f then some u else j g)=8;rw[if_neg q];show z
def ao.made(I:ao X pins σ H s):ao X pins σ (upd (upd H ↑s (.own (↑s+1))) (↑s+1) (.ins C ↑s []))
  { s with heap:=(s.heap.push Mn).push (Oq C ↑s) }:=by
 have i:(s.heap.push Mn).get? ↑s=!Mn:=y8 s.heap 9;have t:((s.heap.push Mn).push (Oq C ↑s)).get? (↑s+1)=!Oq C ↑s:=by
  have:=y8 (s.heap.push Mn) (o:=Oq C ↑s) 9
  rwa [Jl]at this
 have z:(s.heap.push Mn).Ns ↑s (λ_=>8):={Mn,#[],_,i,9,(λe B=>absurd B (by simp)),λ_=>rfl};have n:=I.laid (a:=↑s) (o:=.own (↑s+1)) (h':=s.heap.push Mn) (t':=s.toks) (λb u q=>pu _ q) (oN _) {_,i};show n.laid (a:=↑s+1) (o:=.ins C ↑s []) (t':=s.toks) (λb u q=>pu _ q) (Ot (Jl _ _)) ?_;have j:↑s≠↑s+1:=vu (JG _);show ⟨by rw[af j,aa],Jd _,j,t,λ_=>8,(Qd z).at λo q=>pu _ q,λ_=>KW,λy D=>absurd 9 D⟩
def Cq{prog:IY}{w:Je}{env:N5}{e:JF}{f:xD}{c:LM}{s:pe}{Q:n5->pe->Prop}(d:LA e f env (eval e env)=eval e env)
  (h:wpAny (model prog w) A (eval e env) (λo b=>wpAny (model prog w) A (getAttr o f 6) Q E b) E s):wpAny (model prog w) A (eval (.Attribute e f c) env) Q E s:=
 Attribute_any_ h (by rw[arm_eval_Attribute,d])
end
inductive GK(K:PySem.W.Frag)(f:xD)(x:V)(H:Hp)(Q:VK):Prop
 | mk (a:_) (C:_) (dx:_) (fs:_) (v:_):x=.ref a->H a=!.ins C dx fs->nt K C->aF K C f->fs.lookup f=!v->Q v H->GK K f x H Q
def ET(K:PySem.W.Frag)(a:TE)(f:xD):TE:=λσ H Q=>a σ H λx H1=>GK K f x H1 Q
inductive IG(K:PySem.W.Frag)(f:xD)(x y:V)(H:Hp)(N:Hp->Prop):Prop
 | mk (a:_) (C:_) (dx:_) (fs:_):x=.ref a->H a=!.ins C dx fs->nt K C->aF K C f->fs.length<1000->N (upd H a (.ins C dx (aZ f y fs)))->IG K f x y H N
def GL(K:PySem.W.Frag)(b c:TE)(f:xD):TS:=λD σ H=>c σ H λy H1=>b σ H1 λx a=>IG K f x y a (D.nx σ)
def EU(X:Cx)(b:Qc)(c:V->V->Hp->VK->Prop):Prop:=
 ∀(a:7 (mu×Ky)) (s:pe) (σ:St) (H:Hp) (x y:V) (u v:n5) (Q:VK),ao X a σ H s->aE x u->aE y v->c x y H Q->wpAny (model X.prog X.w) X.A (inplaceOp b u v) (EP X a σ Q) X.xe s
inductive IH(f:xD)(a C:mu)(z:V)(H:Hp)(N:Hp->Prop):Prop
 | mk (dx':_) (fs':_):H a=!.ins C dx' fs'->fs'.length<1000->N (upd H a (.ins C dx' (aZ f z fs')))->IH f a C z H N
inductive II(K:PySem.W.Frag)(f:xD)(x:V)(H:Hp)(R:mu->mu->V->Prop):Prop
 | mk (a:_) (C:_) (dx:_) (fs:_) (v:_):x=.ref a->H a=!.ins C dx fs->nt K C->aF K C f->fs.lookup f=!v->R a C v->II K f x H R
def wm(K:PySem.W.Frag)(e h:TE)(d:V->V->Hp->VK->Prop)(f:xD):TS:=λD σ H=>e σ H λx H1=>II K f x H1 λa C v=>
 h σ H1 λy b=>d v y b λz c=>IH f a C z c (D.nx σ)
section
variable {X:Cx} {o e value:JF} {f:xD} {pos pos' tpos:LM} {ta tv:TE}
def EV(r:PE X e ta)(p:LA e f X.env (eval e X.env)=eval e X.env):PE X (.Attribute e f pos) (ET X.K ta f):=by
 intro b s σ H Q I h;show Cq p (aJ (r b s σ H _ I h) λu A ⟨x,H1,d,y,a,C,z,fs,v,j,ea,c,n,l,q⟩=>?_);subst j;let 9:u=Ja a:=y;show o6 d ea c n l λu' B i t=>⟨v,H1,i,t,q⟩
def EW(r:PE X o ta)(t:PE X value tv)(hs:Mm value (!.Attribute o f pos') pos.line X.env=pure 5):PS X (.Assign [.Attribute o f pos'] value pos) (GL X.K ta tv f):=by
 intro b s σ H D I h;show MP (aJ (t b s σ H _ I h) λu E ⟨y,H1,d,B,q⟩=>aJ (r b E σ H1 _ d q) λv O ⟨x,M,i,A,a,C,N,fs,p,ea,c,n,l,z⟩=>?_) hs;subst p;let 9:v=Ja a:=A;show o7 i ea c n l B λQ j=>{σ,_,j,z}
def yF{j:Qc}{p:V->V->Hp->VK->Prop}(T:PE X o ta)(U:PE X value tv)(i:EU X j p):PS X (.AugAssign (.Attribute o f tpos) j value pos) (wm X.K ta tv p f):=by
 intro b s σ H D I h;show wpAny_AugAssign_AttributeAny (aJ (T b s σ H _ I h) λov s1 ⟨x,H1,t,rx,a,C,dx,fs,v,O,ea,c,n,l,q⟩=>?_);subst O;let 9:ov=Ja a:=rx;show o6 t ea c n l λu s2 A ru=>aJ (U b s2 σ H1 _ A q) λw3 s3 ⟨y,r,B,ry,q3⟩=>aJ (i b s3 σ r v y u w3 _ B ru ry q3) λw4 s4 ⟨z,H3,E,rz,N,Q,d,l',q4⟩=>?_;show o7 E d c n l' rz λs5 M=>{σ,_,M,q4}
inductive GM  (x y:V) (H:Hp) (Q:VK):Prop
 | mk (i:_) (j:_):x=.int i->y=.int j->Q (.int (i+j)) H->GM  x y H Q
def va:EU X .Add GM:=by
 rintro a s σ H x y u v Q I b c ⟨i,j,rfl,rfl,q⟩;let(t,9):=(show ∃t,u=Nt i t from b);let(t',9):=(show ∃t',v=Nt j t' from c);show PyProof.Rows.iadd_int {.int (i+j),H,I.tok _,{_,9},q}
end
section
variable {X:Cx} {pins:7 (mu×Ky)} {σ:St} {H:Hp} {s:pe} {A:Jq} {E:n5->pe->Prop} {Q:n5->pe->Prop} {c:n5} {b:Bool}
inductive kd(K:PySem.W.Frag)(H:Hp):V->n5->Prop where
 | non:kd K H .non (.type "NoneType")
 | bl (x:Bool):kd K H (.bl x) (.type "bool")
 | int (i:3):kd K H (.int i) (.type "int")
 | str (x:xD):kd K H (.str x) (.type "str")
 | flt (x:UInt64):kd K H (.flt x) (.type "float")
 | lst {a:mu} {xs:7 V} (e:H a=!.lst xs):kd K H (.ref a) (.type "list")
 | frz {a:mu} {o:Ky} {xs:7 V} (e:H a=!.frz o (.lst xs)):kd K H (.ref a) (.type "list")
 | tup {a:mu} {xs:7 V} (e:H a=!.tup xs):kd K H (.ref a) (.type "tuple")
 | dK {a:mu} {kvs:7 (im×V)} (e:H a=!.dK kvs):kd K H (.ref a) (.type "dict")
 | dT {a:mu} {kvs:7 (7 im×V)} (e:H a=!.dT kvs):kd K H (.ref a) (.type "dict")
 | ins {a C dx:mu} {fs:7 (xD×V)} (e:H a=!.ins C dx fs) (cl:nt K C) (ha:PySem.W.findIn K (.ref C) "__class__"=!!.builtin "object.__class__")
   (hn:PySem.W.specialIn K (.builtin "object.__class__") "__get__"=!!.builtin "getset_descriptor.__get__") (htk:PySem.W.takesIn K (.builtin "object.__class__")=!6)
   (hm:PySem.W.mroIn K C (.type "object")=!6):kd K H (.ref a) (.ref C)
def yG{x:V}{u t:n5}(I:ao X pins σ H s)(d:aE x u)(ty:kd X.K H x t)(e:PL X.K t c=!b)(h:∀tk,Q (.bool b) { s with toks:=tk }):
  wpAny (model X.prog X.w) A (call (.builtin "isinstance") [u,c]) Q E s:=by
 cases ty with
 | non=>cases (show u=Kp from d);show Nc PySem.W.kitx_none I.kIn KW e (λz=>nomatch z) h
 | bl y=>cases (show u=PH y from d);show Nc PySem.W.kitx_bool I.kIn KW e (λz=>nomatch z) h
 | int i=>let(t,q):=(show ∃t,u=Nt i t from d);cases q;show Nc PySem.W.kitx_int I.kIn KW e (λz=>nomatch z) h
 | str y=>let(t,q):=(show ∃t,u=O9 y t from d);cases q;show Nc PySem.W.kitx_str I.kIn KW e (λz=>nomatch z) h
 | flt y=>let(t,q):=(show ∃t,u=Qy y t from d);cases q;show Nc PySem.W.kitx_float I.kIn KW e (λz=>nomatch z) h
 | @lst a xs ea=>
  cases (show u=Ja a from d);let(_,_,n,_,f):=(show aS X.prog X.w H s.heap a (.lst xs) from I.hok a _ ea);show Nc PySem.W.kitx_list I.kIn {_,f,9} e (λz=>nomatch z) h
 | @frz a U xs ea=>
  cases (show u=Ja a from d);let(_,_,_,n,_,f):=(show aS X.prog X.w H s.heap a (.frz U (.lst xs)) from I.hok a _ ea);show Nc PySem.W.kitx_list I.kIn {_,f,9} e (λz=>nomatch z) h
 | @tup a xs ea=>
  cases (show u=Ja a from d);let(_,_,_,p):=(show aS X.prog X.w H s.heap a (.tup xs) from I.hok a _ ea);let(o,f,l,_):=p;show Nc PySem.W.kitx_tuple I.kIn ⟨o,f,l⟩ e (λz=>nomatch z) h
 | @dK a j ea=>
  cases (show u=Ja a from d);let(_,_,vs,_,p):=(show aS X.prog X.w H s.heap a (.dK j) from I.hok a _ ea);let(o,D,B,f,l,_):=p;show Nc PySem.W.kitx_dict I.kIn ⟨o,f,l.1⟩ e (λz=>nomatch z) h
 | @dT a j ea=>
  cases (show u=Ja a from d);let(_,_,xs,_,o,D,B,f,l,_):=(show aS X.prog X.w H s.heap a (.dT j) from I.hok a _ ea);show Nc PySem.W.kitx_dict I.kIn ⟨o,f,l.1⟩ e (λz=>nomatch z) h
 | @ins a C dx fs ea v M T r N=>
  cases (show u=Ja a from d);let(mA,O,_):=oH I.hok ea;let(od,J,_):=O.look;show Nc (PySem.W.kitx_own (v.get _) v.hd M T r N) I.kIn J e (λz=>nomatch z) h
end
def bv.mono{j k:4}{A:Jq}(r:bv k A)(h:j<=k):bv j A:=⟨r.hd,by have:=r.dp;omega,by have:=r.un;omega⟩
def bv.deeper{k:4}{A:Jq}(r:bv (k+1) A)(env:N5):bv k (A.deeper env):=
 ⟨r.hd,by have:=r.dp;show A.depth+1+03*k+05<_;omega,by have:=r.un;show A.units+03+16*k+200<_;omega⟩
def vc{A:Jq}{C:mu}{us:7 n5}{a:7 (xD×n5)}:(A.under (.builtin "type.__call__" {.ref C::us,a})).depth=A.depth+1:=by
 first | rfl | simp[Qe,Code.weight,Code.isCreation,Code.isGuard,Code.isCaller,Code.frames,Qf,guardIds]
def vd{A:Jq}{C:mu}{us:7 n5}{a:7 (xD×n5)}:(A.under (.builtin "type.__call__" {.ref C::us,a})).units=A.units+1:=by
 first | rfl | simp[Qe,Code.cUnits,Code.frames,Qf]
def bv.make{k:4}{A:Jq}(r:bv (k+1) A)(C:mu)(us:7 n5)(a:7 (xD×n5)):bv k (A.under (.builtin "type.__call__" {.ref C::us,a})):=
 ⟨r.hd,by have:=r.dp;rw[vc];omega,by have:=r.un;rw[vd];omega⟩
def bv.depth{k:4}{A:Jq}(r:bv k A):A.depth<OS:=by have:=r.dp;omega
def bv.units{k:4}{A:Jq}(r:bv k A):A.units+64<NQ:=by have:=r.un;omega
def n9:TA:=λ_ H Q=>Q [] H
def eZ(b:TE)(c:TA):TA:=λσ H Q=>b σ H λx H1=>c σ H1 λxs a=>Q (x::xs) a
section
variable {X:Cx} {e:JF} {es:7 JF} {te:TE} {t:TA} {pos:LM}
def cz:PA X [] n9:=λ_ _ _ _ H Q I h=>NR {[],H,I,.nil,h}
def aD(f:PE X e te)(hr:PA X es t)(hs:starEach (e::es) X.env=(5,eval e X.env)::starEach es X.env:=by rfl):PA X (e::es) (eZ te t):=by
 intro pos a s σ H Q I h;rw[hs];show wpAny _ _ (spliced ((5,eval e X.env)::backTo pos (starEach es X.env))) _ _ s;show Ny (aJ (f a s σ H _ I h) λu n ⟨x,H1,c,j,q1⟩=>?_);show aJ (hr pos a n σ H1 _ c q1) λus o ⟨xs,b,d,l,i⟩=>{x::xs,b,d,.cons j l,i}
inductive EX(o:HO)(n:4)(H:Hp)(Q:VK):Prop
 | mk:n<=sizeLine->(∀p,H p=8->Q (.ref p) (upd H p o))->EX o n H Q
def GN(t:TA):TE:=λσ H Q=>t σ H λxs H1=>EX (.tup xs) xs.length H1 Q
def Af(t:TA):TE:=λσ H Q=>t σ H λxs H1=>EX (.lst xs) xs.length H1 Q
def o8{j}(h:PA X es t):PE X (.Tuple es j pos) (GN t):=by
 intro a s σ H Q I i;show wpAny_Tuple_spliced (aJ (h pos a s σ H _ I i) λus c ⟨xs,H1,d,r,z,q⟩=>⟨by rw[<- r.length];show z,?_⟩);have f:H1 ↑c=8:=d.hok.fresh (oN _);show {.ref ↑c,upd H1 ↑c (.tup xs),d.laid (t':=c.toks) (λb u e=>pu _ e) (oN _) ?_,9,q _ f};show {z,us,r,{_,y8 _ 9,9,_,9}}
def rN(h:PA X es t):PE X (.List es pos) (Af t):=by
 intro a s σ H Q I i;show wpAny_List_spliced (aJ (h pos a s σ H _ I i) λus c ⟨xs,H1,d,r,z,q⟩=>⟨by rw[<- r.length];show z,?_⟩);have f:H1 ↑c=8:=d.hok.fresh (oN _);show {.ref ↑c,upd H1 ↑c (.lst xs),d.laid (t':=c.toks) (λb u e=>pu _ e) (oN _) ?_,9,q _ f};show {z,us,0,r,y8 _ 9}
end
def uS.make{P:IY}{w:Je}{K:PySem.W.Frag}{mg:xD->Option n5}{base:Jz}{A:Jq}{outer:7 N5}{s:pe}{H:Hp}(e:uS P w K mg base A outer s H)(C:mu)(us:7 n5)(a:7 (xD×n5)):
  uS P w K mg base (A.under (.builtin "type.__call__" ⟨.ref C::us,a⟩)) outer s H:=⟨by first | show e.frames | (simpa[Qe,Code.envs,Qf,pushEnvs] using e.frames),e.mod,e.bs,e.bsz,e.funs,e.frf,e.hok,e.bare⟩
section
variable {X:Cx} {pins:7 (mu×Ky)} {σ:St} {H:Hp} {s s':pe}
def ao.env0(I:ao X pins σ H s):uS X.prog X.w X.K X.mg X.base X.A X.stack s H:=
 {I.ok.frames,I.ok.mod,I.bs,xM I.ok.bsz I.sz,I.stack,I.stkFree,I.hok,I.bare}
def ao.after{Q:VK}{u:n5}(I:ao X pins σ H s)(h:CE X.stack X.prog X.w H s Q u s'):EP X pins σ Q u s':=by
 let(v,j,os,a,un,e,r,q):=h;let(n,g,d,t,i):=s';let 9:i=s.os:=os;show {v,j,I.call (h':=n) (g':=g) (d':=d) (t':=t) (ch:=[]) un e a (λb z=>absurd z (by simp)),r,q}
end
def tJ(sp:Sp)(a:7 V)(E:XK)(t:TA):TE:=λσ H Q=>t σ H λvs H1=>sp (vs++a) H1 Q E
inductive IJ(C:mu)(m:xD)(x:V)(H:Hp)(R:Prop):Prop
 | mk (a:_) (dx:_) (fs:7 (xD×V)):x=.ref a->H a=!.ins C dx fs->fs.lookup m=8->R->IJ C m x H R
def tK(C:mu)(m:xD)(sp:Sp)(a:7 V)(E:XK)(c:TE)(t:TA):TE:=λσ H Q=>c σ H λx H1=>IJ C m x H1 (t σ H1 λvs b=>sp (x::(vs++a)) b Q E)
def D6(C:mu)(sp:Sp)(b:7 V)(E:XK)(t:TA):TE:=λσ H Q=>t σ H λvs H1=>∀x a,H1 x=8->H1 a=8->a≠x->
 sp (.ref x::(vs++b)) (upd (upd H1 a (.own x)) x (.ins C a [])) (λv c=>v=.non/\Q (.ref x) c) E
def e7(CX:oF)(X:Cx)(E:XK):Prop:=∀(a:7 (mu×Ky)) (σ:St) (H:Hp) (s:pe) (e:n5) (s':pe),ao X a σ H s->CX X.stack H s E e s'->X.xe e s'
section
variable {X:Cx} {CX:oF} {k:4} {f C:mu} {fd:Kz} {ps:7 xD} {sp:Sp} {dvs:7 V} {ds:7 n5} {E:XK} {x m:xD} {p pos apos:LM} {e o:JF} {es:7 JF} {ta:TE} {t:TA}
def ve{a:7 (mu×Ky)}{σ:St}{H:Hp}{s:pe}{Q:VK}{us:7 n5}{vs:7 V}(F:cQ X.prog X.w X.K X.mg X.base CX k f fd ps sp)(hr:bv k X.A)(i:cH X.K fd ps ds)(j:az dvs ds)(n:e7 CX X E)
  (I:ao X a σ H s) (r:az vs us) (h:sp (vs++dvs) H Q E):wpAny (model X.prog X.w) X.A (call (.ref f) us) (EP X a σ Q) X.xe s:=by
 have c:az (vs++dvs) (us++ds):=r.append j;have l:(us++ds).length=ps.length:=by rw[<- c.length];show F.len _ _ _ _ h
 show Lr (KC (F.run X.A X.stack s H {us,[]} (us++ds) (vs++dvs) Q E hr I.env0 (i s us I.kIn l) c h) λr s' b=>?_);cases r with
 | error e=>show n a σ H s e s' I b
 | ok d=>
  cases d with
  | ret u=>show I.after b
  | next=>show JB b
  | brk=>show JB b
  | cont=>show JB b
def Cr(F:cQ X.prog X.w X.K X.mg X.base CX k f fd ps sp)(hr:bv k X.A)(l:Gl X x)(u:X.mg x=!.ref f)(n:Mf X.K (.ref f)=6)(i:cH X.K fd ps ds)(j:az dvs ds)(v:e7 CX X E)
  (d:PA X (e::es) t) (b:(x==("__debug__":xD))=5:=by decide) (he:starEach (e::es) X.env=(5,eval e X.env)::starEach es X.env:=by rfl) (hpl:(backTo pos (starEach es X.env)).any (·.1)=5:=by rfl):
  PE X (.Call (.Name x p) (e::es) [] pos) (tJ sp dvs E t):=by
 intro a s σ H Q I h;show JL (eB I l u ?_ b);show MZ (h₀:=X.base) I.ok.mod.kin n (aJ (d pos a s σ H _ I h) λus y ⟨vs,H1,c,r,q⟩=>{c.kIn,?_}) he hpl;show ve F hr i j v c r q
def wn{pl:QJ Bool}(D:PE X o ta)(c:nt X.K C)(n:zM X.K C m f)(F:cQ X.prog X.w X.K X.mg X.base CX k f fd ps sp)(hr:bv k X.A)(A:cH X.K fd ps ds)(B:az dvs ds)(M:e7 CX X E)(z:PA X (e::es) t)
  (d:starEach (e::es) X.env=(5,eval e X.env)::starEach es X.env:=by rfl) (hpl:(backTo pos (starEach es X.env)).any (·.1)=5:=by rfl)
  (ht:eval (.Call (.Attribute o m apos) (e::es) [] pos) X.env=(do
   let v <- eval o X.env
   standAt apos.atName
   let (f,first) <- holding [v] (getMethod v m pl)
   Nz pos f first (backTo pos (starEach (e::es) X.env)) (Mx pos (Lb [] X.env))):=by rfl):
  PE X (.Call (.Attribute o m apos) (e::es) [] pos) (tK C m sp dvs E ta t):=by
 intro b s σ H Q I h;show NW (pl:=pl) (aJ (D b s σ H _ I h) λu T ⟨x,H1,i,O,a,dx,fs,y,ea,l,q⟩=>?_) ht;subst y;let 9:u=Ja a:=O;show lf i ea c n l ?_;show MZ (first:=[.ref a]) (h₀:=X.base) I.ok.mod.kin n.kp (aJ (z pos b T σ H1 _ i q) λus s2 ⟨vs,U,j,r,N⟩=>{j.kIn,?_}) d hpl;show ve (us:=.ref a::us) (vs:=.ref a::vs) F hr A B M j (.cons 9 r) N
def Ag{pl:QJ Bool}(y:PE X o ta)(c:nt X.K C)(i:zM X.K C m f)(F:cQ X.prog X.w X.K X.mg X.base CX k f fd ps sp)(hr:bv k X.A)(r:cH X.K fd ps ds)(v:az dvs ds)(A:e7 CX X E)
  (z:eval (.Call (.Attribute o m apos) [] [] pos) X.env=(do
   let j <- eval o X.env
   standAt apos.atName
   let (f,first) <- holding [j] (getMethod j m pl)
   Nz pos f first (backTo pos (starEach [] X.env)) (Mx pos (Lb [] X.env))):=by rfl):
  PE X (.Call (.Attribute o m apos) [] [] pos) (tK C m sp dvs E ta n9):=by
 intro b s σ H Q I h;show NW (pl:=pl) (aJ (y b s σ H _ I h) λu M ⟨x,H1,d,B,a,D,fs,n,ea,l,q⟩=>?_) z;subst n;let 9:u=Ja a:=B;show lf d ea c i l ?_;show PySem.W.callWith_K0 (first:=[.ref a]) d.kIn i.kp (ve (us:=[.ref a]) (vs:=[.ref a]) F hr r v A d (.cons 9 .nil) q)
def Ah{b:7 (mu×Ky)}{σ:St}{H:Hp}{s:pe}{Q:VK}{us:7 n5}{vs:7 V}(M:Mk X.K C f)(F:cQ X.prog X.w X.K X.mg X.base CX k f fd ps sp)(hr:bv (k+1) X.A)(A:cH X.K fd ps ds)(B:az dvs ds)
  (N:e7 CX X E) (I:ao X b σ H s) (r:az vs us)
  (h:∀x d,H x=8->H d=8->d≠x->sp (.ref x::(vs++dvs)) (upd (upd H d (.own x)) x (.ins C d [])) (λv n=>v=.non/\Q (.ref x) n) E):
  wpAny (model X.prog X.w) X.A (call (.ref C) us) (EP X b σ Q) X.xe s:=by
 have i:=h (↑s+1) ↑s (I.hok.fresh (Lc _)) (I.hok.fresh (oN _)) (vu (JG _));have c:=ao.made (C:=C) I;have j:az (V.ref (↑s+1)::(vs++dvs)) (Ja (↑s+1)::(us++ds)):=.cons 9 (r.append B);have D:(Ja (↑s+1)::us++ds).length=ps.length:=by
  have e:=j.length;rw[F.len _ _ _ _ i]at e;show e.symm
 show Lr (Ae (f:=f) I.kIn M.makes M.init (beq_iff_eq.mp M.fn) (KC (F.run _ X.stack _ _ {Ja (↑s+1)::us,[]} (Ja (↑s+1)::(us++ds)) _ _ E (hr.make C us [])
  (c.env0.make C us []) (A _ (Ja (↑s+1)::us) c.kIn D) j i) λr s' a=>?_))
 cases r with
 | error e=>show N b σ _ _ e s' c a
 | ok z=>
  cases z with
  | ret u=>
   let(v,l,q,T,y,O):=c.after a;subst y;show {T,{V.ref (↑s+1),l,q,9,O}}
  | next=>show JB a
  | brk=>show JB a
  | cont=>show JB a
def Cs(M:Mk X.K C f)(F:cQ X.prog X.w X.K X.mg X.base CX k f fd ps sp)(hr:bv (k+1) X.A)(l:Gl X x)(n:X.mg x=!.ref C)(i:cH X.K fd ps ds)(j:az dvs ds)(u:e7 CX X E)
  (d:PA X (e::es) t) (b:(x==("__debug__":xD))=5:=by decide) (he:starEach (e::es) X.env=(5,eval e X.env)::starEach es X.env:=by rfl) (hpl:(backTo pos (starEach es X.env)).any (·.1)=5:=by rfl):
  PE X (.Call (.Name x p) (e::es) [] pos) (D6 C sp dvs E t):=by
 intro a s σ H Q I h;show JL (eB I l n ?_ b);show MZ (h₀:=X.base) I.ok.mod.kin M.kp (aJ (d pos a s σ H _ I h) λus v ⟨vs,H1,c,r,q⟩=>{c.kIn,?_}) he hpl;show Ah M F hr i j u c r q
end
structure al(N P:7 xD)(sc:JT):Prop where
 kind:sc.kind=.function
 co:sc.isCoroutine=5
 gen:sc.isGenerator=5
 nd:N.Nodup
 pre:N.take P.length=P
 par:∀x∈P,sc.names.lookup x=!.local\/sc.names.lookup x=!.cell
 nofree:∀y∈sc.names,y.2≠.free
def qy{kindOf:xD->Option Kc}{x:xD}:∀{binds:7 (xD×n5)} {m:xD->Option n5},(∀v,(x,v)∉binds)->QF kindOf binds m x=m x
 | [],_,_=>rfl
 | (n,v)::r,m,h=>by
  unfold QF;rw[qy λw hw=>h w (wh _ hw)]
  split
  ·have:x≠n:=by rintro rfl;show h v vr
   simp[this]
  ·rfl
def qB{kindOf:xD->Option Kc}{x:xD}:∀{binds:7 (xD×n5)} {m:xD->Option n5},(∀v,(x,v)∉binds)->QG kindOf binds m x=m x
 | [],_,_=>rfl
 | (n,v)::r,m,h=>by
  unfold QG;rw[qB λw hw=>h w (wh _ hw)]
  split
  ·rfl
  ·have:x≠n:=by rintro rfl;show h v vr
   simp[this]
def qC{kindOf:xD->Option Kc}{x:xD}{v:n5}:∀{P:7 xD} {vs:7 n5} {i:4} {m:xD->Option n5},P.Nodup->P[i]?=!x->vs[i]?=!v->kindOf x=!.local->
  QF kindOf (P.zip vs) m x=!v
 | [],_,_,_,_,h,_,_=>by simp at h
 | _::_,[],_,_,_,_,h,_=>by simp at h
 | p::P,w::vs,0,m,d,a,b,c=>by
  simp at a b;subst a;subst b;show QF kindOf ((p,w)::P.zip vs) m p=_;unfold QF;rw[qy λv e=>(Ls.mp d).1 (OH e).1,if_pos c];simp
 | p::P,w::vs,i+1,m,d,a,b,c=>by
  show QF kindOf ((p,w)::P.zip vs) m x=_;unfold QF;show qC (i:=i) (Ls.mp d).2 (by simpa using a) (by simpa using b) c
def qD{kindOf:xD->Option Kc}{x:xD}{v:n5}:∀{P:7 xD} {vs:7 n5} {i:4} {m:xD->Option n5},P.Nodup->P[i]?=!x->vs[i]?=!v->kindOf x≠some .local->
  QG kindOf (P.zip vs) m x=!v
 | [],_,_,_,_,h,_,_=>by simp at h
 | _::_,[],_,_,_,_,h,_=>by simp at h
 | p::P,w::vs,0,m,d,a,b,c=>by
  simp at a b;subst a;subst b;show QG kindOf ((p,w)::P.zip vs) m p=_;unfold QG;rw[qB λv e=>(Ls.mp d).1 (OH e).1,if_neg c];simp
 | p::P,w::vs,i+1,m,d,a,b,c=>by
  show QG kindOf ((p,w)::P.zip vs) m x=_;unfold QG;show qD (i:=i) (Ls.mp d).2 (by simpa using a) (by simpa using b) c
def start(N:7 xD)(vs:7 V):St:=vs.map some++ra (N.length-vs.length) 8
def lN(CX:oF)(P:IY)(w:Je)(K:PySem.W.Frag)(mg:xD->Option n5)(base:Jz)(N:7 xD)(a:xD)(scope:JT)(f:mu)(c:n5)(A:Jq)(outer:7 N5)(s:pe)(H:Hp)(E:XK):Cx where
 prog:=P
 w:=w
 K:=K
 mg:=mg
 base:=base
 A:=A.deeper (envOfC a scope ↑s f c)
 N:=N
 s₀:=s
 H₀:=H
 env:=envOfC a scope ↑s f c
 outer:=outer
 stack:=envOfC a scope ↑s f c::outer
 ex:=[]
 calm:=6
 fn:=λ_=>6
 pn:=[]
 xe:=λe s'=>wpAny (model P w) (A.deeper (envOfC a scope ↑s f c)) (leaving (envOfC a scope ↑s f c) e) (λ_ b=>CX outer H s E e b) (λd b=>CX outer H s E d b) s'
def tL{sc:JT}{n:4}{x:xD}(h:sc.names.lookup x=!.cell):∃c,(KN n sc.names []).lookup x=!c:=by
 have q:=PySem.W.cellsFrom_some sc.names n [] (.inl h);show LZ.mp q
def yH{CX:oF}{P:IY}{w:Je}{K:PySem.W.Frag}{mg:xD->Option n5}{base:Jz}{N ps:7 xD}{d:xD}{scope:JT}{f:mu}{B:n5}{A:Jq}{outer:7 N5}{s M:pe}{H:Hp}{E:XK}{us:7 n5}{vs:7 V}
  (S:al N ps scope) (Q:A.handled=8) (l:uS P w K mg base A outer s H) (hl:vs.length=ps.length) (r:az vs us)
  (x:InCallC s ↑s (QF (envOfC d scope ↑s f B).kindOf (ps.zip us) λ_=>8) (KN (↑s+1) scope.names []) (QG (envOfC d scope ↑s f B).kindOf (ps.zip us) λ_=>8) M):
  ao (lN CX P w K mg base N d scope f B A outer s H E) [] (start N vs) H M:=by
 have T:ps.length<=N.length:=by have:=congrArg Km S.pre;rw[Jn]at this;omega
 let(C,tk,9,D):=x.done;have o:∀b:mu,b∉(lN CX P w K mg base N d scope f B A outer s H E).ex:=λb z=>absurd (show b∈([]:7 mu) from z) (by simp);show ⟨{l.mod,S.kind,9,9,oN _,λy z c C j=>?_,λy hy=>?_,λy c _ h=>?_,λ_=>Q,OX l.frames,.inr ⟨9,9⟩,λb z=>absurd z (o b),l.bs,l.bsz,λb _ _=>o b,λb z=>absurd z (o b),l.funs,l.frf},
  rfl,l.bare,Un.kept D,{_,x.toInCall.ns,λi y v C j h3=>?_},λy c h=>{_,x.cell y c h},l.hok.fresh (oN _),λy c h=>?_,λp hp=>absurd (show p∈([]:7 (mu×Ky)) from hp) (by simp),l.hok.kept D,?_⟩
 ·show name_of_addr x.apart (PySem.mem_of_lookup C) (PySem.mem_of_lookup j)
 ·have hy:scope.names.lookup y=!.cell\/scope.names.lookup y=!.free:=hy
  let hy||hy:=hy
  ·show tL hy
  ·show absurd 9 (S.nofree _ (PySem.mem_of_lookup hy))
 ·show Jh (x.above y c (PySem.mem_of_lookup h))
 ·have hi:i<vs.length:=by
   unfold start at j
   by_cases hi:i<vs.length
   ·show hi
   ·rw[J8 (by simpa using hi)]at j
    rw[JV]at j
    split at j<;>cases j
  have O:vs[i]?=!v:=by
   unfold start at j;rw[KI (by simpa using hi),r6]at j;cases e:vs[i]? with
   | none=>rw[e]at j;cases j
   | some a=>rw[e]at j;cases j;rfl
  let(u,I,U):=r.get O;have hp:ps[i]?=!y:=by
   rw[<- S.pre,Lk ()];show C
  have t:ps.Nodup:=by rw[<- S.pre];show S.nd.sublist (List.take_sublist _ _)
  show {u,U,?_};let k||k:=S.par y (xA hp)
  ·show .inl {k,qC t hp I k}
  ·let(c,e):=tL (n:=↑s+1) k
   show .inr {.inl k,c,e,?_};have q:=x.cell y c e;rw[qD t hp I (by show scope.names.lookup y≠_;rw[k];decide)]at q;show q
 ·show l.hok.fresh (Jh (x.above y c (PySem.mem_of_lookup h)))
 ·unfold start
  show _=N.length;rw[sB,lj,zg];omega
def Ai{CX:oF}{P:IY}{w:Je}{K:PySem.W.Frag}{mg:xD->Option n5}{base:Jz}{k:4}{f:mu}{name a:xD}{c:Pc}{d:7 Jt}{scope:JT}{dV kV p pm cdv ct oc:n5}{an od:Option mu}
  {O:Array (Option n5)} {N ps:7 xD} {sp:Sp} (lk:K.lookup f=some {oc,od,.func (QC name a c d scope dV kV p pm an cdv ct),O}) (D:OT K cdv a=6) (S:al N ps scope)
  (len:∀vs H Q E,sp vs H Q E->vs.length=ps.length)
  (j:∀(A:Jq) (outer:7 N5) (s:pe) (H:Hp) (vs:7 V) (Q:VK) (E:XK),bv k (A.deeper (envOfC a scope ↑s f cdv))->sp vs H Q E->
   ∃t,sX (lN CX P w K mg base N a scope f cdv A outer s H E) d t/\t { nx:=λ_ i=>Q .non i,rt:=Q } (start N vs) H):
  cQ P w K mg base CX (k+1) f (QC name a c d scope dV kV p pm an cdv ct) ps sp:=by
 show {len,λA outer s H args us vs Q E hr z hb r C=>?_};have hl:=len _ _ _ _ C;have U:K.In s.heap:=z.mod.kin.keeps λb o e=>(z.bs b o e).1;have M:s.heap.NoLimit:=z.mod.nolimit.keeps λb o e=>(z.bs b o e).1;have l:∀y∈ps.zip us,scope.names.lookup y.1=!.local\/(scope.names.lookup y.1=!.cell/\((KN (↑s+1) scope.names []).lookup y.1).isSome=6):=λ⟨n,v⟩ hy=>by
  let q||q:=S.par n (OH hy).1
  ·show .inl q
  ·show .inr {q,PySem.W.cellsFrom_some _ _ _ (.inl q)}
 show codeAny_call_function hr.depth (U _ _ lk) 9 S.co S.gen 9 (PySem.W.codeRec_of U D) (hb _ _ _ _ ?_);show wpAny_newFunctionEnv_cells S.kind l λenv he s1 x=>?_;subst he;show {M.keeps x.toInCall.keep,codeAny_func ?_};let(t,ht,hq):=j A outer s H vs Q E (hr.deeper _) C;have I:ao (lN CX P w K mg base N a scope f cdv A outer s H E) [] (start N vs) H s1:=yH S hr.hd z hl r x;show Jg (ht [] s1 (start N vs) H _ I hq) (λfl s' hs=>?_) λe s' hs=>hs;have B:∀{h:St} {i:Hp} {v:V} {u:n5},ao (lN CX P w K mg base N a scope f cdv A outer s H E) [] h i s'->aE v u->Q v i->CE outer P w H s Q u s':=
  λ{h i v u} J T q=>⟨v,i,J.os,J.bare,J.base,J.hok,T,q⟩
 cases fl with
 | ret u=>
  let(v,h,i,J,T,q):=hs;show B J T q
 | next=>
  let(h,i,J,q):=hs;show B (v:=V.non) (u:=Kp) J 9 q
 | brk=>
  let(_,_,_,q):=hs;show JB q
 | cont=>
  let(_,_,_,q):=hs;show JB q
section
variable {X:Cx} {x:xD} {p pos:LM} {e:JF} {es:7 JF} {t:TA} {id T:String} {r:7 V->Hp->VK->Prop}
def IK(r:7 V->Hp->VK->Prop)(t:TA):TE:=λσ H Q=>t σ H λvs H1=>r vs H1 Q
def bP (hc:bq X (.builtin id) r) (f:Gl X x) (i:X.mg x=8) (l:Js x=!.builtin id) (d:PA X (e::es) t) (j:x ≠ "__name__":=by decide) (b:(x==("__debug__":xD))=5:=by decide)
  (he:starEach (e::es) X.env=(5,eval e X.env)::starEach es X.env:=by rfl) (hpl:(backTo pos (starEach es X.env)).any (·.1)=5:=by rfl):PE X (.Call (.Name x p) (e::es) [] pos) (IK r t):=by
 intro a s σ H Q I h;show JL (cZ I f i l ?_ j b);show PyProof.Rows.callWith_builtin1 (aJ (d pos a s σ H _ I h) λus o ⟨vs,H1,c,n,q1⟩=>hc a o σ H1 vs us Q c n q1) he hpl
def eK (hc:bq X (.type T) r) (f:Gl X x) (i:X.mg x=8) (l:Js x=!.type T) (d:PA X (e::es) t) (j:x ≠ "__name__":=by decide) (b:(x==("__debug__":xD))=5:=by decide)
  (he:starEach (e::es) X.env=(5,eval e X.env)::starEach es X.env:=by rfl) (hpl:(backTo pos (starEach es X.env)).any (·.1)=5:=by rfl):PE X (.Call (.Name x p) (e::es) [] pos) (IK r t):=by
 intro a s σ H Q I h;show JL (cZ I f i l ?_ j b);show Jx (aJ (d pos a s σ H _ I h) λus o ⟨vs,H1,c,n,q1⟩=>hc a o σ H1 vs us Q c n q1) he hpl
end
end L2
namespace HT
open PySem PyProof.Rows
section
variable {prog:IY} {w:Je} {A:Jq} {E:n5->pe->Prop} {s:pe}
def cat_tup{t b:mu}{vs a:7 n5}{Q:n5->pe->Prop}(x:IsTup s.heap t vs.toArray)(v:IsTup s.heap b a.toArray)(p:vs≠[])
  (r:a=[]->Q (.ref t) s) (u:a≠[]->Q (.ref ↑s) { s with heap:=s.heap.push { cls:=.type "tuple",data:=.seq (vs++a).toArray } })
  (hsz:vs.length+a.length<=sizeLine):wpAny (model prog w) A (KP .Add (.ref t) (.ref b)) Q E s:=by
 let((cls,dd,data,sl),j,hc,n,o):=id x;let((l,d,data2,i),c,f,q,h):=id v;simp only at hc o f h;subst hc o f h;have e:vs.toArray++a.toArray=(vs++a).toArray:=by simp
 by_cases hw:a=[]
 ·show concat_meets {_,j,9} {_,c,9} noFill_tuple_add seq_tuple_add PySem.F.slot_tuple_add PySem.F.entry_tuple_add (PySem.F.args_tuple_add_2 _ _)
   (tuple_addW1 t b vs.toArray a.toArray n q dd d sl i (by simpa using p) (by simp[hw])) {j,c,r hw}
 ·show concat_meets {_,j,9} {_,c,9} noFill_tuple_add seq_tuple_add PySem.F.slot_tuple_add PySem.F.entry_tuple_add (PySem.F.args_tuple_add_2 _ _)
   (tuple_addW2 t b vs.toArray a.toArray n q dd d sl i (by simpa using p) (by simpa using hw) (by rw[y9,y9];show hsz)) {j,c,?_}
  rw[e];show u hw
def sIx(n d:4):Option 3->4
 | none=>d
 | some v=>if v<0 then (v+(n:3)).toNat else min v.toNat n
def sIx_none(n d:4):sIx n d 8=d:=9
def sIx_nat(n d k:4):sIx n d (!(k:3))=min k n:=by
 show (if (k:3)<0 then ((k:3)+(n:3)).toNat else min (k:3).toNat n)=min k n;rw[if_neg (),Ji]
end
end HT
namespace L2
open PySem PySem.Spec PyProof.Rows
abbrev TO:=St->Hp->(Option 3->Hp->Prop)->Prop
def PO(X:Cx)(e:Option JF)(t:TO):Prop:=
 ∀(a:7 (mu×Ky)) (s:pe) (σ:St) (H:Hp) (Q:Option 3->Hp->Prop),ao X a σ H s->t σ H Q->
  wpAny (model X.prog X.w) X.A (evalPart e X.env) (λu s'=>∃o b,ao X a σ b s'/\IsPart u o/\Q o b) X.xe s
def wo:TO:=λ_ H Q=>Q 8 H
def wq(t:TE):TO:=λσ H Q=>t σ H λx H1=>∃i,x=.int i/\Q (!i) H1
def gU{ns:7 3}:∀{us:7 n5},az (ns.map V.int) us->IntsAre us ns:=by
 induction ns with
 | nil=>intro us r;rw[P9]at r;cases r;show .nil
 | cons n ns a=>
  intro us r;rw[KH]at r;cases r with
  | cons b c=>
   let(t,e):=b;subst e;show .cons n t (a c)
section
variable {X:Cx} {e:JF} {te:TE} {lo hi:Option JF} {tl th:TO} {pos p2:LM}
def lO:PO X 8 wo:=by
 intro a s σ H Q I h;rw[Pq];show ri {8,H,I,.none,h}
def Ct(h:PE X e te):PO X (!e) (wq te):=by
 intro a s σ H Q I hw;rw[evalPart_some];show aJ (h a s σ H _ I hw) λu d ⟨x,H1,b,c,q1⟩=>?_;let(i,9,q):=q1;let(t,9):=c;show {!i,H1,b,.int i t,q}
def Ip(X:Cx)(r:V->Option 3->Option 3->Hp->VK->Prop):Prop:=
 ∀(a:7 (mu×Ky)) (s:pe) (σ:St) (H:Hp) (x:V) (v b c:n5) (lo hi:Option 3) (sl:mu) (Q:VK),ao X a σ H s->aE x v->s.heap.IsSliceOf sl b c .none->IsPart b lo->IsPart c hi->r x lo hi H Q->
  ∃T id,NA (.type T) "__getitem__"=pure (!.builtin id)/\s.TypeIs v T/\wpAny (model X.prog X.w) X.A (Qg v (.ref sl)) (EP X a σ Q) X.xe s
def Iq(r:V->Option 3->Option 3->Hp->VK->Prop)(te:TE)(tl th:TO):TE:=λσ H Q=>te σ H λx H1=>tl σ H1 λl a=>th σ a λu b=>r x l u b Q
def Aj{r:V->Option 3->Option 3->Hp->VK->Prop}(hr:Ip X r)(z:PE X e te)(B:PO X lo tl)(D:PO X hi th):PE X (.Subscript e (.Slice lo hi 8 p2) pos) (Iq r te tl th):=by
 intro a s σ H Q I h;show Subscript_ (aJ (z a s σ H _ I h) λv U ⟨x,H1,n,O,q1⟩=>?_);show wpAny_Slice (aJ (B a U σ H1 _ n q1) λd s2 ⟨l,j,o,pl,M⟩=>aJ (D a s2 σ j _ o M) λf c ⟨u,i,p,E,N⟩=>?_);rw[Pq];show ri ?_;have t:ao X a σ i { c with heap:=c.heap.push { cls:=.type "slice",data:=.fields #[d,f,.none] } }:=p.kept (t':=c.toks) λb ob q=>pu _ q;let(T,id,y,C,A):=hr a { c with heap:=c.heap.push { cls:=.type "slice",data:=.fields #[d,f,.none] } } σ i x v d f l u ↑c Q t O (PP ..) pl E N
 show wpAny (model X.prog X.w) X.A (subscriptTail e (.Slice lo hi 8 p2) v (.ref ↑c)) (EP X a σ Q) X.xe { c with heap:=c.heap.push { cls:=.type "slice",data:=.fields #[d,f,.none] } };show tail_any (ops:=[.ref ↑c,v]) C y A (by with_unfolding_all rfl)
def dm(xs:7 V)(lo hi:Option 3):7 V:=(xs.drop (HT.sIx xs.length 0 lo)).take (HT.sIx xs.length xs.length hi-HT.sIx xs.length 0 lo)
def i6(xs:7 V)(lo hi:Option 3):(dm xs lo hi).length<=xs.length:=by
 unfold dm;rw[Jn,JM];omega
def GO(K:PySem.W.Frag):R2:=λx y H Q=>∃a b xs ys,x=.ref a/\y=.ref b/\b9 K H a xs/\b9 K H b ys/\xs≠[]/\xs.length+ys.length<=sizeLine /\
 (ys=[]->Q (.ref a) H)/\(ys≠[]->∀p,H p=8->Q (.ref p) (upd H p (.tup (xs++ys))))
def az.nil_iff{xs:7 V}{us:7 n5}(r:az xs us):us=[]↔xs=[]:=by
 cases r with
 | nil=>simp
 | cons _ _=>simp
def Cu:d4 X (KP .Add) (GO X.K):=by
 intro j s σ H x y v u Q I A B h;let(a,b,xs,ys,9,9,l,n,p,f,q1,t):=h;cases A;cases B;let(its,d,r,_):=I.tuple l;let(i,c,p2,_):=I.tuple n;show HT.cat_tup r p2 (λz=>p (d.nil_iff.mp z)) (λz=>{.ref a,H,I,9,q1 (c.nil_iff.mp z)}) (λz=>?_) (by rw[<- d.length,<- c.length];show f);show {.ref ↑s,_,I.laid (t':=s.toks) (o:=.tup (xs++ys)) (λb C q=>pu _ q) (oN _) ?_,9,t (λw=>z (c.nil_iff.mpr w)) _ (I.hok.fresh (oN _))};show ⟨by rw[sB];show f,_,d.append c,IsTup.new _ _⟩
end
def Ak(n:4)(i:3):Option 4:=if 0<=i then (if i<n then some i.toNat else 8) else if -(n:3)<=i then some (i+n).toNat else 8
def oh{a:Type}(xs:7 a)(i:3):Option a:=(Ak xs.length i).bind λj=>xs[j]?
def wt{n:4}{i:3}{j:4}(h:Ak n i=!j):Qq i n=!j/\j<n/\-(n:3)<=i/\i<n:=by
 unfold Ak at h
 by_cases b:0<=i
 ·rw[if_pos b]at h
  by_cases a:i<n
  ·rw[if_pos a]at h
   have e:i.toNat=j:=vb h;show ⟨by rw[seqIndex_of b a,e],(),(),a⟩
  ·rw[if_neg a]at h;cases h
 ·rw[if_neg b]at h
  by_cases a:-(n:3)<=i
  ·rw[if_pos a]at h
   have e:(i+n).toNat=j:=vb h;show ⟨by rw[seqIndex_neg () a,e],(),a,()⟩
  ·rw[if_neg a]at h;cases h
def wu{a:Type}{xs:7 a}{i:3}{v:a}(h:oh xs i=!v):∃j,Qq i xs.length=!j/\xs[j]?=!v/\j<xs.length/\-(xs.length:3)<=i/\i<xs.length:=by
 unfold oh at h;cases e:Ak xs.length i with
 | none=>rw[e]at h;cases h
 | some j=>
  rw[e]at h;let(b,c,d,f):=wt e;show ⟨j,b,h,c,d,f⟩
def aq{a:Type}{xs:7 a}{j:4}{v:a}(h:xs[j]?=!v):oh xs (j:3)=!v:=by
 have b:j<xs.length:=(op.mp h).1;have e:Ak xs.length (j:3)=!j:=by
  unfold Ak;rw[if_pos (),if_pos ()];simp
 unfold oh;rw[e];show h
def o9{a:Type}(xs:7 a)(v:a):oh (xs++[v]) (-1)=!v:=by
 have b:(xs++[v]).length=xs.length+1:=by simp
 have e:Ak (xs++[v]).length (-1)=!xs.length:=by
  unfold Ak;rw[b,if_neg (by decide),if_pos ()];congr 1;omega
 unfold oh;rw[e];show (xs++[v])[xs.length]?=!v;simp
def Cv(b:JF):Prop:=∀o i,OY b 5 o i=operate [o,i] (Qg o i)
def B8(X:Cx)(r:R2):Prop:=
 ∀(c a:JF) (b:7 (mu×Ky)) (s:pe) (σ:St) (H:Hp) (x y:V) (v u:n5) (Q:VK),ao X b σ H s->aE x v->aE y u->r x y H Q->
  OY a 5 v u=operate [v,u] (Qg v u)->wpAny (model X.prog X.w) X.A (subscriptTail c a v u) (EP X b σ Q) X.xe s
def Al(X:Cx)(id:String)(r:V->7 V->Hp->VK->Prop):Prop:=
 ∀(a:7 (mu×Ky)) (s:pe) (σ:St) (H:Hp) (x:V) (xs:7 V) (v:n5) (us:7 n5) (Q:VK),ao X a σ H s->aE x v->az xs us->r x xs H Q->
  wpAny (model X.prog X.w) X.A (call (.builtin id) (v::us)) (EP X a σ Q) X.xe s
section
variable {X:Cx} {a b:JF} {ta tb:TE} {pos:LM}
def B8.or{r n:R2}(h:B8 X r)(h':B8 X n):B8 X (λx y H Q=>r x y H Q\/n x y H Q):=by
 intro i e j s σ H x y v u Q I t z q hs;let q||q:=q
 ·show h i e j s σ H x y v u Q I t z q hs
 ·show h' i e j s σ H x y v u Q I t z q hs
def Al.or{id:String}{r i:V->7 V->Hp->VK->Prop}(h:Al X id r)(h':Al X id i):Al X id (λx xs H Q=>r x xs H Q\/i x xs H Q):=by
 intro e s σ H x xs v us Q I n j q;let q||q:=q
 ·show h e s σ H x xs v us Q I n j q
 ·show h' e s σ H x xs v us Q I n j q
def wv{r:R2}(hr:B8 X r)(f:PE X a ta)(i:PE X b tb)(hs:Cv b):PE X (.Subscript a b pos) (wc r ta tb):=by
 intro c s σ H Q I h;show Subscript_ (EK f i I h λv u n x y d e j l q=>hr a b c n σ d x y v u Q e j l q (hs _ _))
inductive Cw(K:PySem.W.Frag)(x y:V)(H:Hp)(Q:VK):Prop
 | mk (p:_) (xs:_) (i:_) (v:_):x=.ref p->y=.int i->ak K H p xs->oh xs i=!v->Q v H->Cw K x y H Q
inductive EY(K:PySem.W.Frag)(x y:V)(H:Hp)(Q:VK):Prop
 | mk (p:_) (xs:_) (i:_) (v:_):x=.ref p->y=.int i->b9 K H p xs->oh xs i=!v->Q v H->EY K x y H Q
def ww:B8 X (Cw X.K):=by
 intro o n c s σ H x y v u Q I T U h hs;let(p,xs,i,z,9,9,O,M,q):=h;cases T;let(t,9):=U;let(its,r,pl,hz):=I.list O;let(j,e,C,h3,D,E):=wu M;let(w,A,l):=r.get C;have N:=r.length;have hn:=o5;have d:EP X c σ Q w s:=⟨z,H,I,l,q⟩
 by_cases B:0<=i
 ·have f:i.toNat=j:=by
   rw[seqIndex_of B E]at e;show vb e
  show item_listR pl.isList B () (by rw[f];simpa using A) d hs
 ·have f:(i+(its.toArray.size:3)).toNat=j:=by
   rw[seqIndex_neg () D]at e;rw[y9,<- N];show vb e
  show subscriptTail_builtinR (x:=w) pl.isList.typeIs NS.lookup
   (wpAny_getItem_list_neg (Q:=λr s'=>r=w/\EP X c σ Q r s') pl.isList () (by rw[y9]<;>omega) () (by rw[f];simpa using A) ⟨9,d⟩) hs
def EZ:B8 X (EY X.K):=by
 intro l f c s σ H x y v u Q I E M h hs;let(p,xs,i,z,9,9,D,B,q):=h;cases E;let(t,9):=M;let(its,r,pl,hz):=I.tuple D;let(j,o,A,N,O,T):=wu B;let(w,n,e):=r.get A;have C:=r.length;have U:=o5;have d:EP X c σ Q w s:=⟨z,H,I,e,q⟩;show subscriptTail_builtinR (x:=w) pl.typeIs slot_tuple_getitem.lookup
  (getItem_tuple (j:=j) (Q:=λr s'=>r=w/\EP X c σ Q r s') pl () () (by rw[y9,<- C];show o) (by simpa using n) ⟨9,d⟩) hs
def vf(its:7 n5)(n j:4)(u:n5):JC (·.setIfInBounds j u) { cls:=.type "list",data:=.seq its.toArray n }={ cls:=.type "list",data:=.seq (its.set j u).toArray n }:=by
 simp[JC]
def ao.lst{i:7 (mu×Ky)}{σ:St}{H:Hp}{s:pe}{p:mu}{xs:7 V}(I:ao X i σ H s)(h:H p=!.lst xs):
  ∃(its:7 n5) (n:4),az xs its/\s.heap.get? p=some { cls:=.type "list",data:=.seq its.toArray n }/\xs.length<=sizeLine:=by
 let(z,its,n,r,e):=I.hok p _ h;show ⟨its,n,r,e,z⟩
def ao.lstUpd{i:7 (mu×Ky)}{σ:St}{H:Hp}{s:pe}{p:mu}{xs ys:7 V}{its its':7 n5}{n j:4}{f:Ky->Ky}(I:ao X i σ H s)(h:H p=!.lst xs)
  (y:s.heap.get? p=some { cls:=.type "list",data:=.seq its.toArray n }) (hf:f { cls:=.type "list",data:=.seq its.toArray n }={ cls:=.type "list",data:=.seq its'.toArray j }) (r:az ys its') (hz:ys.length<=sizeLine) (t:4):
  ao X i σ (upd H p (.lst ys)) { s with heap:=s.heap.update p f,toks:=t }:=by
 have e:(s.heap.update p f).get? p=some { cls:=.type "list",data:=.seq its'.toArray j }:=by
  rw[KA f y (by rw[hf]<;>rfl),hf]
 show I.write (x:=p) (e:=p) (by rw[h];trivial) (.inl 9) (λb u v q=>(Jp _ _ (JP v)).trans q) {_,e} ?_;show ⟨hz,its',j,r,e⟩
inductive D8  (o i v:V) (H:Hp) (Q:Hp->Prop):Prop
 | mk (p:_) (xs:_) (k:_) (j:_):o=.ref p->i=.int k->H p=!.lst xs->Ak xs.length k=!j->Q (upd H p (.lst (xs.set j v)))->D8  o i v H Q
def Am:Gx X D8:=by
 intro c s σ H o i v U T u Q I E D M h;let(p,xs,k,j,9,9,hp,B,q):=h;cases E;let(t,9):=D;let(its,n,r,l,C):=I.lst hp;let(d,N,z,A):=wt B;have f:=r.length;have O:=o5;have x:ao X c σ (upd H p (.lst (xs.set j v))) { s with heap:=s.heap.update p (JC (·.setIfInBounds j u)) }:=
  I.lstUpd hp l (vf its n j u) (r.set M j) (by rw[Kd];show C) s.toks
 by_cases y:0<=k
 ·have e:k.toNat=j:=by
   rw[seqIndex_of y A]at d;show vb d
  show PySem.W.ki_setAt l y () (by rw[y9,<- f];show A) (by rw[e];show {_,x,q})
 ·have e:(k+(its.toArray.size:3)).toNat=j:=by
   rw[seqIndex_neg () z]at d;rw[y9,<- f];show vb d
  show PySem.W.ki_setBack l () (by rw[y9,<- f];show z) () (by rw[e];show {_,x,q})
def rO(lo hi:Option 3)(n:4):(Kx lo hi 8 n).1=((HT.sIx n 0 lo:4):3)/\(Kx lo hi 8 n).2.1=((HT.sIx n n hi:4):3)/\(Kx lo hi 8 n).2.2=1:=by
 show {?_,?_,9}
 ·cases lo with
  | none=>simp[Kx,HT.sIx]
  | some i=>
   simp only[Kx,HT.sIx,Qr,show (1:3)>0 by decide,if_true]
   by_cases h:i<0
   ·simp only[h,if_true]<;>omega
   ·simp only[h,if_false]<;>omega
 ·cases hi with
  | none=>simp[Kx,HT.sIx]
  | some i=>
   simp only[Kx,HT.sIx,Qr,show (1:3)>0 by decide,if_true]
   by_cases h:i<0
   ·simp only[h,if_true]<;>omega
   ·simp only[h,if_false]<;>omega
def qf(its:7 n5)(lo hi:Option 3):Qs its.toArray lo hi 8=((its.drop (HT.sIx its.length 0 lo)).take (HT.sIx its.length its.length hi-HT.sIx its.length 0 lo)).toArray:=by
 let(c,d,e):=rO lo hi its.toArray.size;unfold Qs;rw[c,d,e];simp only[sliceRange_one,pick_run,y9]<;>rfl
inductive An(K:PySem.W.Frag)(x:V)(lo hi:Option 3)(H:Hp)(Q:VK):Prop
 | mk (a:_) (xs:_):x=.ref a->ak K H a xs->(∀p,H p=8->Q (.ref p) (upd H p (.lst (dm xs lo hi))))->An K x lo hi H Q
def Cy:Ip X (An X.K):=by
 intro e s σ H x v p t lo hi sl Q I l hs pl j h;let(a,xs,9,f,q):=h;cases l;let(its,r,d,i):=I.list f;have c:=r.length;show {"list",_,NS.lookup,d.isList.typeIs,?_};show NX d.isList hs pl j .none (by simp) ?_ (by rw[y9]<;>omega);rw[qf,<- c];show {.ref ↑s,_,I.laid (t':=s.toks) (o:=.lst (dm xs lo hi)) (λb n q=>pu _ q) (oN _) ?_,9,q _ (I.hok.fresh (oN _))};show {xM (i6 xs lo hi) i,_,0,(r.drop (HT.sIx xs.length 0 lo)).take (HT.sIx xs.length xs.length hi-HT.sIx xs.length 0 lo),y8 _ 9}
def nF:V->Bool
 | .non=>6
 | .bl _=>6
 | .int _=>6
 | .str _=>6
 | _=>5
def D9:V->V->Bool
 | .non,.non=>6
 | .bl a,.bl b=>a==b
 | .bl a,.int b=>(if a then 1 else 0)==b
 | .int a,.bl b=>a==(if b then 1 else 0)
 | .int a,.int b=>a==b
 | .str a,.str b=>a==b
 | _,_=>5
def E3{A:Jq}{s:pe}{y x:V}{u v:n5}(e:aE y u)(c:aE x v)(f:nF y=6)(d:nF x=6):SeqAt.EqAt A s u v (D9 y x):=by
 cases y with
 | non=>
  cases e;cases x with
  | non=>cases c;show SeqAt.EqAt.same _
  | bl b=>cases c;show SeqAt.EqAt.none_bool b
  | int b=>let(t,9):=c;show SeqAt.EqAt.none_int b t
  | str b=>let(t,9):=c;show SeqAt.EqAt.none_str b t
  | _=>show absurd (show 5=6 from d) t7
 | bl a=>
  cases e;cases x with
  | non=>cases c;show SeqAt.EqAt.bool_none a
  | bl b=>cases c;show SeqAt.EqAt.bool_bool a b
  | int b=>let(t,9):=c;show SeqAt.EqAt.bool_int a b t
  | str b=>let(t,9):=c;show SeqAt.EqAt.bool_str a b t
  | _=>show absurd (show 5=6 from d) t7
 | int a=>
  let(t',9):=e;cases x with
  | non=>cases c;show SeqAt.EqAt.int_none a t'
  | bl b=>cases c;show SeqAt.EqAt.int_bool a t' b
  | int b=>let(t,9):=c;show SeqAt.EqAt.int_int a t' b t
  | str b=>let(t,9):=c;show PD a t' b t
  | _=>show absurd (show 5=6 from d) t7
 | str a=>
  let(t',9):=e;cases x with
  | non=>cases c;show SeqAt.EqAt.str_none a t'
  | bl b=>cases c;show SeqAt.EqAt.str_bool a t' b
  | int b=>let(t,9):=c;show PF a t' b t
  | str b=>let(t,9):=c;show SeqAt.EqAt.str_str a t' b t
  | _=>show absurd (show 5=6 from d) t7
 | _=>show absurd (show 5=6 from f) t7
def Cz(x:V)(u:n5):Bool:=match u with
 | .none=>D9 .non x
 | .bool b=>D9 (.bl b) x
 | .int i _=>D9 (.int i) x
 | .str z _=>D9 (.str z) x
 | _=>5
def Ao{x y:V}{u:n5}(r:aE y u)(f:nF y=6):Cz x u=D9 y x:=by
 cases y with
 | non=>cases r;rfl
 | bl b=>cases r;rfl
 | int i=>let(t,9):=r;rfl
 | str z=>let(t,9):=r;rfl
 | _=>show absurd (show 5=6 from f) t7
def rP{x:V}:∀{xs:7 V} {us:7 n5},az xs us->xs.all nF=6->us.any (Cz x)=xs.any λy=>D9 y x
 | _,_,.nil,_=>rfl
 | y::xs,u::us,.cons r t,f=>by
  rw[Pr,Jf]at f;rw[NB,NB,Ao r f.1,rP t f.2]
def pc{A:Jq}{s:pe}{x:V}{v:n5}(d:aE x v)(c:nF x=6):∀{xs:7 V} {us:7 n5},az xs us->xs.all nF=6->∀u∈us,SeqAt.EqAt A s u v (Cz x u)
 | _,_,.nil,_=>λu hu=>by cases hu
 | y::xs,u::us,.cons r t,f=>λu' hu=>by
  rw[Pr,Jf]at f;let 9||hu:=Jb.mp hu
  ·rw[Ao r f.1];show E3 r d f.1 c
  ·show pc d c t f.2 u' hu
def E4(x:V)(xs:7 V):Bool:=xs.any λy=>D9 y x
inductive Ir(K:PySem.W.Frag)(neg:Bool)(x y:V)(H:Hp)(Q:VK):Prop
 | mk (p:_) (xs:_):y=.ref p->(ak K H p xs\/b9 K H p xs)->nF x=6->xs.all nF=6->Q (.bl (if neg then (not (E4 x xs)) else E4 x xs)) H->Ir K neg x y H Q
def rQ:d4 X (JX .NotIn) (Ir X.K 6):=by
 intro d s σ H x y v u Q I e i h;let(p,xs,9,hq,c,fs,q):=h;cases i;let hq||hq:=hq
 ·let(its,r,pl,f):=I.list hq
  show SeqAt.notIn_listAt (Cz x) pl.isList (λw hw=>pc e c r fs w (by simpa using hw)) {.bl _,H,I,9,?_};rw[show its.toArray.any (Cz x)=its.any (Cz x) by simp,rP r fs];show q
 ·let(its,r,pl,f):=I.tuple hq
  show SeqAt.notIn_tupleAt (Cz x) pl (λw hw=>pc e c r fs w (by simpa using hw)) {.bl _,H,I,9,?_};rw[show its.toArray.any (Cz x)=its.any (Cz x) by simp,rP r fs];show q
def bq.or{f:n5}{r i:7 V->Hp->VK->Prop}(h:bq X f r)(h':bq X f i):bq X f (λxs H Q=>r xs H Q\/i xs H Q):=by
 intro e s σ H xs us Q I j q;let q||q:=q
 ·show h e s σ H xs us Q I j q
 ·show h' e s σ H xs us Q I j q
def lP:bq X (.type "list") (λxs H Q=>∃p ys,xs=[.ref p]/\(ak X.K H p ys\/b9 X.K H p ys)/\∀l,H l=8->Q (.ref l) (upd H l (.lst ys))):=by
 intro t s σ H xs us Q I r h;let(p,ys,9,hq,q):=h;let(u,9,z):=gj r;cases z;have d:∀(its:7 n5),az ys its->ys.length<=sizeLine->∀(h':Jz) (c':4),(∀b y,s.heap.get? b=!y->h'.get? b=!y)->
   h'.get? ↑s=some { cls:=.type "list",dict:=8,data:=.seq its.toArray c',slots:=#[] }->EP X t σ Q (.ref ↑s) { s with heap:=h' }:=λits c i h' c' j e=>
  {.ref ↑s,_,I.laid (t':=s.toks) j (oN _) (show aS X.prog X.w _ h' _ (.lst ys) from ⟨i,its,c',c,e⟩),9,q _ (I.hok.fresh (oN _))}
 let hq||hq:=hq
 ·let(its,c,pl,i):=I.list hq
  have f:=c.length;let(o,x,hc,n,v):=pl.isList;show call_list_seq p (.inl 9) x hc v (λh' c' j e=>d its c i h' c' j e) (by simp only[y9]<;>omega)
 ·let(its,c,pl,i):=I.tuple hq
  have f:=c.length;let(o,x,hc,n,v):=pl;show call_list_seq p (.inr 9) x hc v (λh' c' j e=>d its c i h' c' j e) (by simp only[y9]<;>omega)
def Is(K:PySem.W.Frag)(T:String)(x:V)(H:Hp):Prop:=match x with
 | .str _=>T = "str"
 | .int _=>T = "int"
 | .ref p=>(T = "list"/\∃xs,ak K H p xs)\/(T = "tuple"/\∃o,K.lookup p=!o/\o.cls=.type "tuple"/\o.dict=8) \/
   (T = "dict"/\((∃c,H p=!.dK c)\/∃c,H p=!.dT c))\/(T = "set"/\∃S n,H p=!.set S n)
 | _=>False
def Ap{h:7 (mu×Ky)}{σ:St}{H:Hp}{s:pe}{T:String}{x:V}{v:n5}(I:ao X h σ H s)(r:aE x v)(ty:Is X.K T x H):
  s.TypeIs v T/\∀a,v=.ref a->∃u,s.heap.get? a=!u/\u.dict=8:=by
 cases x with
 | str z=>
  let(t,9):=r;cases (show T = "str" from ty);show {typeIs_str s z t,λ_ e=>nomatch e}
 | int i=>
  let(t,9):=r;cases (show T = "int" from ty);show {typeIs_int s i t,λ_ e=>nomatch e}
 | ref p=>
  cases r;let(9,xs,y)||(9,o,d,hc,l)||(9,d)||(9,S,n,d):=ty
  ·let(its,_,pl,_):=I.list y
   show {pl.isList.typeIs,λa e=>?_};cases e;let(o,n,e,c,l,_):=pl;show ⟨o,e,l⟩
  ·show {{o,I.kIn p o d,hc},λa e=>?_}
   cases e;show {o,I.kIn _ o d,l}
  ·have z:∃o,s.heap.get? p=!o/\o.ExactDict:=by
    let(q,d)||(q,d):=d
    ·let(_,_,_,_,o,_,_,e,f,_):=I.hok p _ d
     show ⟨o,e,f⟩
    ·let(_,_,_,_,o,_,_,e,f,_):=I.hok p _ d
     show ⟨o,e,f⟩
   let(o,e,f):=z;show {⟨o,e,f.1⟩,λa j=>?_};cases j;show ⟨o,e,f.2.1⟩
  ·let(o,_,_,_,e,f,_):=I.hok p _ d
   show {⟨o,e,f.1⟩,λa j=>?_};cases j;show ⟨o,e,f.2.1⟩
 | _=>show JB ty
def GP(K:PySem.W.Frag)(T:String)(r:V->7 V->Hp->VK->Prop)(c:TE):TE:=λσ H Q=>c σ H λx H1=>Is K T x H1/\r x [] H1 Q
def IM(K:PySem.W.Frag)(T:String)(r:V->7 V->Hp->VK->Prop)(d:TE)(t:TA):TE:=λσ H Q=>d σ H λx H1=>Is K T x H1/\t σ H1 λxs c=>r x xs c Q
variable {o e:JF} {es:7 JF} {to:TE} {t:TA} {name:xD} {apos cpos:LM} {T id:String} {r:V->7 V->Hp->VK->Prop}
def E5 (z:PQ T) (i:Slot T name id) (j:typeOf (.builtin id)=pure (.type "method_descriptor")) (u:Al X id r) (y:PE X o to)
  (d:LA o name X.env (eval o X.env)=eval o X.env:=by rfl) (f:(apos.endLine==cpos.line)=6:=by rfl):PE X (.Call (.Attribute o name apos) [] [] cpos) (GP X.K T r to):=by
 intro c s σ H Q I h;show wpAny_Call_method0_late d f (aJ (y c s σ H _ I h) λv A ⟨x,H1,l,n,ty,q1⟩=>?_);let(p,q):=Ap l n ty;show {T,id,z,i,j,p,q,Ow 9 (PySem.evalArgs_none (u c A σ H1 x [] v [] Q l n .nil q1))}
def GQ (M:PQ T) (l:Slot T name id) (n:typeOf (.builtin id)=pure (.type "method_descriptor")) (D:Al X id r) (E:PE X o to) (C:PA X (e::es) t)
  (f:LA o name X.env (eval o X.env)=eval o X.env:=by rfl)
  (j:((backTo cpos (starEach (e::es) X.env)).all (λx=>(not x.1))&&(Mx cpos (Lb [] X.env)).all (λx=>x.1.isSome)
   && decide ((e::es).length+([]:7 Keyword).length+(if ([]:7 Keyword).isEmpty then 0 else 1)<30))=6:=by rfl)
  (i:(apos.endLine==cpos.line)=6:=by rfl) (hs:starEach (e::es) X.env=(5,eval e X.env)::starEach es X.env:=by rfl) (d:(backTo cpos (starEach es X.env)).any (·.1)=5:=by rfl):
  PE X (.Call (.Attribute o name apos) (e::es) [] cpos) (IM X.K T r to t):=by
 intro c s σ H Q I h;show wpAny_Call_method_late f j i 9 (aJ (E c s σ H _ I h) λv U ⟨x,H1,p,u,ty,q1⟩=>?_);let(A,B):=Ap p u ty;show {T,id,M,l,n,A,B,?_};have q:=C cpos c U σ H1 _ p q1;rw[hs]at q ⊢;show Ow (by show (5||(backTo cpos (starEach es X.env)).any (·.1))=5;rw[d]<;>rfl) (Calls.evalArgs_plain ?_);show aJ q λus s2 ⟨vs,y,z,O,N⟩=>D c s2 σ y x vs v us Q z u O N
end
def GR(X:Cx)(id:String)(r:V->7 V->Hp->VK->Prop):Prop:=
 ∀(a:7 (mu×Ky)) (s:pe) (σ:St) (H:Hp) (x:V) (xs:7 V) (v:n5) (us:7 n5) (Q:VK),ao X a σ H s->aE x v->az xs us->r x xs H Q->
  wpAny (model X.prog X.w) X.A (call (.builtin id) (v::us)) (EP X a σ Q) X.xe s
def az.one:∀{x:V} {us:7 n5},az [x] us->∃u,us=[u]/\aE x u
 | _,_,.cons r .nil=>⟨_,9,r⟩
def az.zero:∀{us:7 n5},az [] us->us=[]
 | _,.nil=>rfl
def az.dropLast{xs:7 V}{us:7 n5}(h:az xs us):az xs.dropLast us.dropLast:=by
 induction h with
 | nil=>show .nil
 | cons r t a=>
  cases t with
  | nil=>show .nil
  | cons q t'=>show .cons r a
def az.eraseIdx:∀{xs:7 V} {us:7 n5} (i:4),az xs us->az (xs.eraseIdx i) (us.eraseIdx i)
 | _,_,_,.nil=>.nil
 | _,_,0,.cons _ t=>t
 | _,_,i+1,.cons r t=>.cons r (az.eraseIdx i t)
def az.reverse{xs:7 V}{us:7 n5}(h:az xs us):az xs.reverse us.reverse:=by
 induction h with
 | nil=>show .nil
 | cons r t a=>rw[Lu,Lu];show az.append a (.cons r .nil)
def az.rep{xs:7 V}{us:7 n5}(h:az xs us):∀k:4,az (ra k xs).flatten (ra k us).flatten
 | 0=>.nil
 | k+1=>by
  rw[JW,JW,LN,LN];show az.append h (az.rep h k)
def vg{d:Type}(l:7 d):l.eraseIdx (l.length-1)=l.dropLast:=by
 induction l with
 | nil=>rfl
 | cons a r c=>
  cases r with
  | nil=>rfl
  | cons b r=>
   have e:(a::b::r).length-1=((b::r).length-1)+1:=by
    have f:(a::b::r).length=r.length+2:=9;have h:(b::r).length=r.length+1:=9;omega
   rw[e,N7,c]
   all_goals rfl
def qF{a:Type}:∀(l:7 a) (i:4),(l.eraseIdx i).length<=l.length
 | [],_=>oN _
 | _::_,0=>Lc _
 | _::r,i+1=>Ld (qF r i)
def qG(its:7 n5):∀(k:4) (a:7 n5),
  QH (λc d=>c++d) a.toArray (ra k its.toArray)=(a++(ra k its).flatten).toArray
 | 0,a=>by simp
 | k+1,a=>by
  have e:a.toArray++its.toArray=(a++its).toArray:=by simp
  have b:(a++its)++(ra k its).flatten=a++(ra (k+1) its).flatten:=by
   rw[JW,LN,Ju]
  rw[<- b,<- qG its k (a++its),<- e,JW,OI]
section
variable {X:Cx} {pins:7 (mu×Ky)} {σ:St} {H:Hp} {s:pe} {l b:mu} {xs ys zs:7 V}
def ao.lset{its its':7 n5}{n:4}{f:Array n5->Array n5}{t':4}(I:ao X pins σ H s)(a:H l=!.lst xs)
  (e:s.heap.get? l=some { cls:=.type "list",data:=.seq its.toArray n }) (hf:f its.toArray=its'.toArray) (hv:az ys its') (hz:ys.length<=sizeLine):
  ao X pins σ (upd H l (.lst ys)) { s with heap:=s.heap.update l (JC f),toks:=t' }:=by
 have q:=PySem.IsL.update e f;rw[hf]at q;show I.write (x:=l) (e:=l) (by rw[a];show trivial) (.inl 9) (λt u i j=>(Jp s.heap (JC f) (JP i)).trans j) {_,q} ?_;show {hz,its',_,hv,q}
def ao.lnew{its:7 n5}{t':4}(I:ao X pins σ H s)(a:az ys its)(e:ys.length<=sizeLine):
  ao X pins σ (upd H ↑s (.lst ys)) { s with heap:=s.heap.push { cls:=.type "list",data:=.seq its.toArray },toks:=t' }:=
 I.laid (λ_ _ q=>pu _ q) (oN _) {e,its,0,a,y8 _ 9}
def ao.fresh(I:ao X pins σ H s):H ↑s=8:=I.hok.fresh (oN _)
def ao.lstM(I:ao X pins σ H s)(a:H l=!.lst xs):xs.length<=sizeLine/\∃(its:7 n5) (n:4),az xs its/\xs.length=its.length/\s.heap.get? l=some { cls:=.type "list",data:=.seq its.toArray n }:=by
 let(z,its,n,r,e):=I.hok l _ a;show ⟨z,its,n,r,r.length,e⟩
def Aq{n:4}(h:n<=sizeLine):L0 n=5:=by
 unfold L0;show decide_eq_false ()
end
section
variable {X:Cx}
inductive wx  (x:V) (vs:7 V) (H:Hp) (Q:VK):Prop
 | mk (l:_) (xs:_) (y:_):x=.ref l->vs=[y]->H l=!.lst xs->xs.length<sizeLine->Q .non (upd H l (.lst (xs++[y])))->wx  x vs H Q
def jU:GR X "list.append" wx:=by
 intro b s σ H x vs v us Q I f d h;let(l,xs,y,9,9,a,j,q):=h;cases f;let(u,9,c):=d.one;let(z,its,n,r,i,e):=I.lstM a;show Ox F.slot_list_append {_,e,9} F.entry_list_append (F.args_list_append_2 _ _) (PySem.list_append l its.toArray n u (by rw[y9];omega)) {e,?_};show {.non,_,I.lset (its':=its++[u]) a e (by simp) (r.append (.cons c .nil)) ?_,9,q};rw[sB,KS];omega
inductive E6  (x:V) (vs:7 V) (H:Hp) (Q:VK):Prop
 | mk (l:_) (xs:_) (y:_):x=.ref l->vs=[]->H l=!.lst xs->xs[xs.length-1]?=!y->Q y (upd H l (.lst xs.dropLast))->E6  x vs H Q
def E7:GR X "list.pop" E6:=by
 intro d s σ H x vs v us Q I t p h;let(l,xs,y,9,9,c,j,q):=h;cases t;have a:=p.zero;subst a;let(z,its,n,r,f,e):=I.lstM c;let(u,i,o):=r.get j;have b:its.toArray[its.toArray.size-1]?=!u:=by
  show its.toArray[its.length-1]?=!u;rw[<- K7,<- f];show i
 show Ox F.slot_list_pop {_,e,9} F.entry_list_pop (F.args_list_pop_1 _) (MeetsSeq.list_pop_last l its.toArray n u b (by rw[y9];omega)) {e,?_};show {y,_,I.lset (its':=its.dropLast) c e ?_ r.dropLast ?_,o,q}
 ·show its.toArray.eraseIdxIfInBounds (its.toArray.size-1)=its.dropLast.toArray
  rw[y9,MQ,vg]
 ·rw[L8]
  omega
inductive vh  (x:V) (vs:7 V) (H:Hp) (Q:VK):Prop
 | mk (l:_) (xs:_) (i:_) (k:_) (y:_):x=.ref l->vs=[.int i]->H l=!.lst xs->-(2^63)<=i->i<2^63->Qq i xs.length=!k->xs[k]?=!y->Q y (upd H l (.lst (xs.eraseIdx k)))->vh  x vs H Q
def Ar:GR X "list.pop" vh:=by
 intro c s σ H x vs v us Q I C B h;let(l,xs,i,k,y,9,9,b,d,f,j,p,q):=h;cases C;let(u,9,A):=B.one;let(t,9):=A;let(z,its,n,r,o,e):=I.lstM b;let(w,hw,a):=r.get p;show Ox F.slot_list_pop {_,e,9} F.entry_list_pop (F.args_list_pop_2 _ _)
  (MeetsSeq.list_pop_at l its.toArray n i t k w (fitsIndex_both d f) (by rw[y9,<- o];show j) (by rw[<- K7];show hw) (by rw[y9];omega)) {e,?_}
 show {y,_,I.lset (its':=its.eraseIdx k) b e ?_ (r.eraseIdx k) ?_,a,q}
 ·show its.toArray.eraseIdxIfInBounds k=(its.eraseIdx k).toArray
  rw[MQ]
 ·have:=qF xs k
  omega
inductive E8  (x y:V) (H:Hp) (Q:VK):Prop
 | mk (l:_) (b:_) (xs:_) (zs:_):x=.ref l->y=.ref b->H l=!.lst xs->H b=!.lst zs->xs.length+zs.length<=sizeLine->(∀p,H p=8->Q (.ref p) (upd H p (.lst (xs++zs))))->E8  x y H Q
def E9:d4 X (KP .Add) E8:=by
 intro c s σ H x y v u Q I p t h;let(l,b,xs,zs,9,9,i,f,B,q):=h;cases p;cases t;let(z,its,n,r,A,e):=I.lstM i;let(z2,a,C,o,j,d):=I.lstM f;show PySem.P.add_list e d ?_ (by rw[y9,y9];omega);have ea:its.toArray++a.toArray=(its++a).toArray:=by simp
 rw[ea];show ⟨.ref _,_,I.lnew (t':=s.toks) (r.append o) (by rw[sB];omega),9,q _ I.fresh⟩
def Ea(K:PySem.W.Frag):V->V->Hp->VK->Prop:=λx y H Q=>∃l b xs zs,x=.ref l/\y=.ref b/\ak K H l xs/\ak K H b zs/\xs.length+zs.length<=sizeLine/\∀p,H p=8->Q (.ref p) (upd H p (.lst (xs++zs)))
def CA:d4 X (KP .Add) (Ea X.K):=by
 intro c s σ H x y v u Q I p t h;let(l,b,xs,zs,9,9,j,i,B,q):=h;cases p;cases t;let(z,its,n,r,e):=I.listM j;let(z2,a,C,d,f):=I.listM i;have A:=r.length;have o:=d.length;show PySem.P.add_list e f ?_ (by rw[y9,y9];omega);have ea:its.toArray++a.toArray=(its++a).toArray:=by simp
 rw[ea];show ⟨.ref _,_,I.lnew (t':=s.toks) (r.append d) (by rw[sB];omega),9,q _ I.fresh⟩
inductive Fa  (x y:V) (H:Hp) (Q:VK):Prop
 | mk (l:_) (k:_) (xs:_):x=.ref l->y=.int k->H l=!.lst xs->-(2^63)<=k->k<2^63->xs.length*k.toNat<=sizeLine->(∀p,H p=8->Q (.ref p) (upd H p (.lst (ra k.toNat xs).flatten)))->Fa  x y H Q
def rR{b:Type}(xs:7 b)(k:4):(ra k xs).flatten.length=k*xs.length:=by
 induction k with
 | zero=>simp
 | succ k a=>rw[JW,LN,sB,a,Nat.succ_mul,Qh]
def Fb:d4 X (KP .Mult) Fa:=by
 intro A s σ H x y v u Q I N O h;let(l,k,xs,9,9,E,C,D,p,q):=h;cases N;let(t,9):=O;let(z,its,n,r,M,e):=I.lstM E;have f:its.toArray.size*k.toNat<=sizeLine:=by rw[y9,<- M];show p
 have c:¬ its.toArray.size*k.toNat>(2^63-1)/08:=by
  have:(sizeLine:4)<=(2^63-1)/08:=by decide
  omega
 have d:¬ ((not (Builtin.List.listFitsIndex k)))=6:=by
  rw[fitsIndex_both C D];show t7
 have b:¬ L0 (its.toArray.size*k.toNat)=6:=by
  rw[Aq f];show t7
 have i:QH (λj o=>j++o) #[] (ra (if its.toArray.isEmpty=6 then 0 else k.toNat) its.toArray)=(ra k.toNat its).flatten.toArray:=by
  have B:∀m:4,QH (λj o=>j++o) #[] (ra m its.toArray)=(ra m its).flatten.toArray:=λm=>by
   have:=qG its m [];rw[NC]at this;show this
  rw[B];cases its with
  | nil=>simp
  | cons a r'=>rw[if_neg (by simp)]
 show wpAny_binaryOp_repeat_ref (T := "list") (U := "int") (by decide) {_,e,9} (λs'=>typeIs_int s' k t) noFill_list_mul F.fills_int_mul F.slot_int_rmul repeat_list F.slot_int_index.lookup
  (Ox F.slot_int_rmul (typeIs_int s k t) F.entry_int_rmul (F.args_int_rmul_2 _ _) (int___rmul___int_list k t l its.toArray n)
   {e,9,{_,e,9},Ox F.slot_list_mul {_,e,9} F.entry_list_mul (F.args_list_mul_2 _ _) (AutoListH.list___mul___list_int_3 l its.toArray n k t d c b) {e,?_}})
 rw[i];show ⟨.ref _,_,I.lnew (t':=s.toks) (r.rep k.toNat) (by rw[rR,Nat.mul_comm];show p),9,q _ I.fresh⟩
end
section
variable {prog:IY} {w:Je} {A:Jq} {E:n5->pe->Prop} {s:pe}
set_option maxRecDepth 100000 in
end
abbrev E0:XK:=λ_ _ _=>False
def wz{X:Cx}:e7 bu X E0:=λ_ _ _ _ _ _ _ h=>h.elim
section
variable {P:IY} {w:Je} {K:PySem.W.Frag} {mg:xD->Option n5} {base:Jz}
def qe.ok{x a:xD}{st:Jt}{f:mu}{fd:Kz}{N ps:7 xD}{k:4}{sp:Sp}(F:qe K x a st f fd)(S:al N ps (ah st))(len:∀vs H Q E,sp vs H Q E->vs.length=ps.length)
  (b:∀(cdv:n5) (A:Jq) (outer:7 N5) (s:pe) (H:Hp) (vs:7 V) (Q:VK) (E:XK),bv k (A.deeper (envOfC a (ah st) ↑s f cdv))->sp vs H Q E->
   ∃t,sX (lN bu P w K mg base N a (ah st) f cdv A outer s H E).nox (bK st) t/\t { nx:=λ_ j=>Q .non j,rt:=Q } (start N vs) H):cQ P w K mg base bu (k+1) f fd ps sp:=by
 let(z,od,kV,n,B,y,cdv,ct,v,9,u,e):=F.ex;show Ai u e S len λA outer s H vs Q E hr i=>?_;let(t,h,q):=b cdv A outer s H vs Q E hr i;show ⟨t,h.nox,q⟩
end
def wB{A:Jq}{k:4}(hr:bv k A):A.units+1<NQ:=ND (Nat.add_le_add_left (by decide:1<=64) _) hr.units
def am{n:4}(h:n<=1000):n<sizeLine:=ND h (by decide)
section
variable {X:Cx}
def pv (i:4) {x:xD} {a:LM} (b:X.N[i]?=!x:=by rfl) (hv:HG X.env.scope x:=by first | show OZ 9 | show QI (OZ 9) | show QI (QI 9)) (hd:(x==("__debug__":xD))=5:=by decide)
  (hcd:(x==("__classdict__":xD))=5:=by decide):PE X (.Name x a) (gi i):=uV b hv hd hcd
end
def aO{A B:Prop}(h:B):if 5=6 then A else B:=by
 rw[if_neg t7];show h
def bC{A B:Prop}(h:A):if 6=6 then A else B:=by
 rw[if_pos 9];show h
def wC{c A B:Prop} [Decidable c] (hc:c) (h:B):if ((not (decide c)))=6 then A else B:=by
 rw[decide_eq_true hc];show aO h
def ag(H a:Hp):Prop:=∀b o,H b=!o->a b=!o
def ag.refl(H:Hp):ag H H:=λ_ _ h=>h
def ag.trans{H H1 e:Hp}(a:ag H H1)(b:ag H1 e):ag H e:=λc o h=>b c o (a c o h)
def ag.free{H a:Hp}(e:ag H a){l:mu}(h:a l=Option.none):H l=Option.none:=by
 cases q:H l with
 | none=>rfl
 | some o=>
  rw[e l o q]at h;cases h
def ag.seq{K:PySem.W.Frag}{H b:Hp}{a:mu}{xs:7 V}(e:ag H b)(h:ak K H a xs):ak K b a xs:=by
 let(h||(o,h))||h:=h
 ·show .inl (.inl (e _ _ h))
 ·show .inl (.inr {o,e _ _ h})
 ·show .inr h
def aI(env:N5):7 (xD×Kc)->7 (xD×mu)->7 (xD×mu)
 | [],a=>a
 | (n,k)::r,a=>aI env r (if k==.free then (n,(env.cells.lookup n).getD 0)::a else a)
def pd:∀(l:7 (xD×Kc)) (b:7 (xD×mu)),(∀y∈l,y.2=.free->∃c,env.cells.lookup y.1=!c)->
  (forIn l b λ(x:xD×Kc) (cs:List (xD×mu))=>(if x.2==.free then (do let c <- cellOf env x.1;pure (Lx ((x.1,c)::cs))) else pure (Lx cs):QJ (ForInStep (7 (xD×mu)))))=pure (aI env l b)
 | [],b,_=>by rw[Pd];rfl
 | (n,k)::r,b,h=>by
  have i:=λa=>pd (env:=env) r a λy j=>h y (wh _ j);rw[PU]
  by_cases e:(k==JR)=6
  ·let(c,hc):=h (n,k) vr (by simpa using e)
   have f:env.cells.lookup n=!c:=hc;have d:cellOf env n=pure c:=by unfold cellOf;rw[f]
   simp only[e,if_true,d,pure_bind];rw[i];show _=pure (aI env r (if k==.free then (n,(env.cells.lookup n).getD 0)::b else b));rw[if_pos e,f];rfl
  ·simp only[e,if_false,pure_bind,xN]
   rw[i];show _=pure (aI env r (if k==.free then (n,(env.cells.lookup n).getD 0)::b else b));rw[if_neg e]
def e9{scope:JT}(h:∀y∈scope.names,y.2=.free->∃c,env.cells.lookup y.1=!c):closureFor scope env=pure (aI env scope.names []):=by
 have q:=pd (env:=env) scope.names [] h;unfold closureFor;simp only[bind_pure];show q
def bW{n x:xD}{c:mu}{l:7 (xD×mu)}:((n,c)::l).lookup x=if x==n then some c else l.lookup x:=by
 rw[M0];cases x==n<;>rfl
def i7{env:N5}:∀(l:7 (xD×Kc)) (a:7 (xD×mu)) (x:xD) (c:mu),(∀y∈l,y.2=.free->∃c,env.cells.lookup y.1=!c)->(aI env l a).lookup x=!c->a.lookup x=!c\/env.cells.lookup x=!c
 | [],a,x,c,_,e=>.inl e
 | (n,k)::r,a,x,c,h,e=>by
  have ih:=i7 (env:=env) r _ x c (λy o=>h y (wh _ o)) (show (aI env r (if k==.free then (n,(env.cells.lookup n).getD 0)::a else a)).lookup x=some c from e);let ih||ih:=ih
  ·by_cases d:(k==JR)=6
   ·rw[if_pos d,bW]at ih
    by_cases f:(x==n)=6
    ·rw[if_pos f]at ih
     let(c',hc):=h (n,k) vr (by simpa using d);have b:env.cells.lookup n=!c':=hc;rw[b]at ih;have i:c'=c:=vb ih;have j:x=n:=by simpa using f
     show .inr (by rw[j,b,i])
    ·rw[if_neg f]at ih
     show .inl ih
   ·rw[if_neg d]at ih
    show .inl ih
  ·show .inr ih
def nG{env:N5}:∀(l:7 (xD×Kc)) (a:7 (xD×mu)) (x:xD),(∃c,a.lookup x=!c)->∃c,(aI env l a).lookup x=!c
 | [],a,x,h=>h
 | (n,k)::r,a,x,⟨c,h⟩=>by
  show nG (env:=env) r (if k==.free then (n,(env.cells.lookup n).getD 0)::a else a) x ?_
  by_cases b:(k==JR)=6
  ·rw[if_pos b,bW]
   by_cases d:(x==n)=6
   ·rw[if_pos d];show {_,9}
   ·rw[if_neg d];show ⟨c,h⟩
  ·rw[if_neg b];show ⟨c,h⟩
def cB{env:N5}:∀(l:7 (xD×Kc)) (a:7 (xD×mu)) (x:xD),(x,JR)∈l->∃c,(aI env l a).lookup x=!c
 | [],a,x,h=>by cases h
 | (n,k)::r,a,x,h=>by
  let e||e:=Jb.mp h
  ·let(b,d):=Prod.mk.inj e
   show nG (env:=env) r _ x ?_;rw[if_pos (show (k==JR)=6 from by rw[<- d];rfl),bW,if_pos (show (x==n)=6 from by rw[b];simp)];show {_,9}
  ·show cB (env:=env) r _ x e
abbrev rS(env:N5)(l:7 (xD×Kc)):7 (xD×Kc):=l.map λ(n,k)=>if (k==JR&&env.scope.kind==.function&&env.kindOf n==!.cell) then (n,KD) else (n,k)
def mO:
  (rS env ((n,k)::r)).lookup x=if x==n then some (if (k==JR&&env.scope.kind==.function&&env.kindOf n==!.cell) then KD else k) else (rS env r).lookup x:=by
 show La x ((if (k==JR&&env.scope.kind==.function&&env.kindOf n==!.cell)=6 then (n,KD) else (n,k))::rS env r)=_
 by_cases hc:(k==JR&&env.scope.kind==.function&&env.kindOf n==!.cell)=6
 ·rw[if_pos hc,if_pos hc,M0]
  cases x==n<;>rfl
 ·rw[if_neg hc,if_neg hc,M0]
  cases x==n<;>rfl
def rT{n x:xD}{k:Kc}{r:7 (xD×Kc)}:((n,k)::r).lookup x=if x==n then some k else r.lookup x:=by
 rw[M0];cases x==n<;>rfl
def mP{env:N5}:∀{l:7 (xD×Kc)} {x:xD},l.lookup x=!.free->(rS env l).lookup x=!.cell\/(rS env l).lookup x=!.free
 | [],x,h=>by cases h
 | (n,k)::r,x,h=>by
  rw[rT]at h;rw[mO]
  by_cases a:(x==n)=6
  ·rw[if_pos a]at h ⊢
   have b:k=.free:=vb h;subst b
   split
   ·show .inl 9
   ·show .inr 9
  ·rw[if_neg a]at h ⊢
   show mP h
def tM{env:N5}:∀{l:7 (xD×Kc)} {x:xD},(∀y∈l,y.2≠.cell)->((rS env l).lookup x=!.cell\/(rS env l).lookup x=!.free)->l.lookup x=!.free
 | [],x,_,h=>by let h||h:=h<;>cases h
 | (n,k)::r,x,hc,h=>by
  rw[mO]at h;rw[rT]
  by_cases b:(x==n)=6
  ·rw[if_pos b]at h ⊢
   have d:=hc (n,k) vr;have a:k≠.cell:=d
   by_cases c:(k==JR&&env.scope.kind==.function&&env.kindOf n==!.cell)=6
   ·have:k=.free:=by
     simp only[Jf]at c
     simpa using c.1.1
    rw[this]
   ·simp only[if_neg c]at h
    let h||h:=h
    ·show absurd (vb h) a
    ·show h
  ·rw[if_neg b]at h ⊢
   show tM (λy e=>hc y (wh _ e)) h
def cC(X:Cx)(scope:JT)(N':7 xD)(C:mu)(c:pe)(a:Hp)(b:7 mu)(E:n5->pe->Prop):Cx where
 prog:=X.prog
 w:=X.w
 K:=X.K
 mg:=X.mg
 base:=X.base
 A:=X.A
 N:=N'
 s₀:=c
 H₀:=a
 env:=compEnvC scope (aI X.env scope.names []) C X.env
 outer:=X.stack
 stack:=X.stack
 ex:=b
 fn:=λ_=>5
 calm:=X.calm
 pn:=[]
 xe:=E
def rV(cap:7 (Option 4))(σ:St):St:=cap.map λo=>o.bind λj=>(σ[j]?).join
structure wD(X:Cx)(scope:JT)(N':7 xD)(cap:7 (Option 4)):Prop where
 kind:scope.kind=.function
 nocell:∀y∈scope.names,y.2≠.cell
 names:∀y∈scope.names,y.2=.local->scope.names.lookup y.1=!.local
 free:∀y∈scope.names,y.2=.free->X.env.kindOf y.1=!.cell\/X.env.kindOf y.1=!.free
 len:cap.length=N'.length
 cap:∀i∈IZ cap.length,∀j∈(cap[i]?).join,N'[i]?=X.N[j]?/\(N'[i]?).isSome=6/\(N'[i]?).bind (λn=>scope.names.lookup n)=!.free
structure GS(sc:JT)(N:7 xD)(scope:JT)(N':7 xD)(cap:7 (Option 4)):Prop where
 kind:scope.kind=.function
 nocell:∀y∈scope.names,y.2≠.cell
 names:∀y∈scope.names,y.2=.local->scope.names.lookup y.1=!.local
 free:∀y∈scope.names,y.2=.free->sc.names.lookup y.1=!.cell\/sc.names.lookup y.1=!.free
 len:cap.length=N'.length
 cap:∀i∈IZ cap.length,∀j∈IZ N.length,cap[i]?=!!j->N'[i]?=N[j]?/\(N'[i]?).isSome=6/\(N'[i]?).bind (λn=>scope.names.lookup n)=!.free
def i8{scope:JT}(hs:X.env.scope=sc)(c:X.N=N)(D:GS sc N scope N' cap)(hc:(cap.all λo=>o.all λj=>decide (j<N.length))=6:=by rfl):wD X scope N' cap:=by
 subst hs c;show {D.kind,D.nocell,D.names,D.free,D.len,λi hi j a=>?_};have e:cap[i]?=!!j:=by
  cases q:cap[i]? with
  | none=>rw[q]at a;cases a
  | some o=>
   rw[q]at a;have:o=!j:=a;rw[this]
 have f:some j∈cap:=xA e;have d:=Le.mp hc (!j) f;have b:j<X.N.length:=of_decide_eq_true (by simpa using d);show D.cap i hi j (J9.mpr b) e
def rW(X:Cx)(b:7 JF)(t:TT):Prop:=
 ∀(a:7 (mu×Ky)) (s:pe) (σ:St) (H:Hp) (Q:Bool->Hp->Prop),ao X a σ H s->t σ H Q->
  wpAny (model X.prog X.w) X.A (forIn b 6 λc r=>if r=6 then do let ok <- isTrue c X.env (eval c X.env);pure (Lx ok) else pure (Lx r)) (TP X a σ Q) X.xe s
def GT:TT:=λ_ H Q=>Q 6 H
def gW:rW X [] GT:=λ_ _ _ H _ I h=>wpAny_tests_nil ⟨H,I,h⟩
def CB(h:PT X c t):rW X [c] t:=λa s σ H Q I q=>wpAny_tests_one (h a s σ H Q I q)
def mQ{w:Je}{R:PJ->pe->Prop}{scope:JT}
  (N:a=notedBy (model prog w) A env λe s'=>R (.error e) s') (I:4->pe->Prop)
  (i:∀n s,I n s->wpAny (model prog w) A (Ou it) (λr l=>match r with
   | none=>R (.ok .next) l
   | some v=>wpAny (model prog w) A (Nk p it v) (λ_ u=>wpAny (model prog w) A (assign p env v) (λ_ y=>
     wpAny (model prog w) A (forIn f 6 λc r=>if r=6 then do let ok <- isTrue c env (eval c env);pure (Lx ok) else pure (Lx r)) (λok o=>
      if ok=6 then wpAny (model prog w) A (eval d env) (λx z=>wpAny (model prog w) A (call (.builtin "list.append") [b,x]) (λ_ B=>∃m,m<n/\I m B) a z) a o
      else ∃m,m<n/\I m o) a y) a u) a l) a s)
  (n:4) (h:I n s):K0 (model prog w) A (.compLoop (.ListComp d [{p,iter,f,0}] scope j) 0 it b env) R s:=by
 subst N;show codeAny_loop 9 I (λk s' M=>?_) n h;show (wpAny_noted ?_:wpAny _ A ((compTurn (.ListComp d [{p,iter,f,0}] scope j) 0 it b env).onRaise (λx=>do M4 x env;theTreesLotGoes x)) _ _ s');rw[compTurn_list];show mi (Ko (mi (aJ (i k s' M) λr l q=>?_)));cases r with
 | none=>show ri q
 | some v=>
  show mi (aJ q λ_ u C=>mi (aJ C λ_ y D=>mi (aJ D λok o t=>?_)));cases ok with
  | false=>show ri ⟨9,t⟩
  | true=>show mi (mi (aJ t λx z E=>mi (aJ E λ_ B H=>ri (ri ⟨9,H⟩))))
def tN(J:It)(g:TG)(f:TT)(te:TE)(p:mu)(Q:Hp->Prop)(σ:St)(H:Hp):Prop:=
 ∃W:4->4->St->Hp->Prop,(∃m,W 0 m σ H)/\∀i m d b,W i m d b->
  (J.stop i b/\Q b)\/(J.go i b/\∃N:St->Hp->Prop,(∀a e,N a e->∃l,l<m/\W (i+1) l a e) /\
   ∀x H1,J.yld i b x H1->g x d H1 λa e=>f a e λc h=>if c=6 then te a h λy j=>∃xs,j p=!.lst xs/\xs.length<sizeLine/\N a (upd j p (.lst (xs++[y]))) else N a h)
def nH(c:TI)(cap:7 (Option 4))(g:TG)(a:TT)(te:TE):TE:=λσ H Q=>c σ H λJ H1=>∀p,H1 p=8->tN J g a te p (λb=>Q (.ref p) b) (rV cap σ) (upd H1 p (.lst []))
section
variable {X:Cx} {pins:7 (mu×Ky)} {σ:St} {H:Hp} {s:pe}
def ao.cellOf(I:ao X pins σ H s){scope:JT}(S:wD X scope N' cap):∀y∈scope.names,y.2=.free->∃c,X.env.cells.lookup y.1=!c:=λy a e=>I.ok.has y.1 (S.free y a e)
def ao.clLook(I:ao X pins σ H s){scope:JT}(S:wD X scope N' cap)(e:(aI X.env scope.names []).lookup x=!c):X.env.cells.lookup x=!c:=by
 let h||h:=i7 scope.names [] x c (I.cellOf S) e
 ·cases h
 ·show h
def ao.compOk(I:ao X pins σ H s){scope:JT}(S:wD X scope N' cap)(t:↑s<=C)(j:∀b∈i,cy X pins H b)
  (M:∀b∈i,b<↑s):(cC X scope N' C s H i E).Ok:=by
 have n:∀b∈i,b∉oE X.stack:=λb a z=>by
  let(_,u,v,_):=j b a;let e||e:=Jb.mp (I.stkSub b z)
  ·show u e
  ·show v e
 show {I.ok.mod,S.kind,I.ok.glob,I.ok.blt,t,λx y c B D=>?_,λx O=>?_,λx c h=>(by cases h),I.ok.hd,I.ok.frames,.inl 9,λb a=>{?_,λx c e=>?_},λb o e=>I.bs b o e,xM I.ok.bsz I.sz,λb o e a=>?_,n,I.stack,I.stkFree}
 ·show I.ok.inj x y c (I.clLook S B) (I.clLook S D)
 ·have q:scope.names.lookup x=!.free:=tM S.nocell O
  show cB _ _ x (PySem.mem_of_lookup q)
 ·show vu (ti (M b a) t)
 ·show (j b a).2.2.2.2.1 x c (I.clLook S e)
 ·let z||z:=(j b a).2.2.2.1
  ·show I.ok.noex b o e z
  ·show absurd (ti (xE e) (xM I.ok.bsz z)) (Kw _)
def ao.compStart(I:ao X pins σ H s){scope:JT}(S:wD X scope N' cap){tk:4}
  (O:↑s<=D) (hC:↑s<=C) (ab:D≠C) (hf:∀b∈fp,cy X pins H b) (ho:∀b∈fp,b<↑s)
  (k:∀b o,s.heap.get? b=!o->U.get? b=!o) (hd:U.get? D=some { cls:=.type "list",data:=.seq #[] }) (hn:U.Ns C m):
  ao (cC X scope N' C s H fp E) [] (rV cap σ) (upd H D (.lst [])) { s with heap:=U,toks:=tk }:=by
 have lt:∀b o,s.heap.get? b=!o->b≠D:=λb o e=>vu (ti (xE e) O);show ⟨I.compOk S hC hf ho,9,I.bare,Un.laid k O (I.hok.fresh O),{m,hn,λi x v e1 e2 e3=>?_},λx c e=>?_,?_,λx c e=>?_,λp hp=>absurd (show p∈([]:7 (mu×Ky)) from hp) (by simp),
  I.hok.laid k O {Jd _,[],_,.nil,hd},by unfold rV;rw[lj];show S.len⟩
 ·
  have a:(cap.map λo=>o.bind λj=>(σ[j]?).join)[i]?=!!v:=e2;rw[r6]at a;cases hc:cap[i]? with
  | none=>rw[hc]at a;cases a
  | some o=>
   rw[hc]at a;have n:(o.bind λj=>(σ[j]?).join)=!v:=vb a;cases o with
   | none=>cases n
   | some j=>
    have Q:(σ[j]?).join=!v:=n;have ac:σ[j]?=!!v:=by
     cases q:σ[j]? with
     | none=>rw[q]at Q;cases Q
     | some w'=>rw[q]at Q;rw[show w'=some v from Q]
    have hi:i∈IZ cap.length:=J9.mpr (op.mp hc).1;let(a1,_,a3):=S.cap i hi j (by rw[hc];rfl);have T:N'[i]?=!x:=e1;rw[T]at a1 a3;have t:scope.names.lookup x=!.free:=a3;have hk:=S.free _ (PySem.mem_of_lookup t) 9;have M:X.env.kindOf x=!.cell\/X.env.kindOf x=!.free:=hk;let(m0,ap,hl):=I.loc;let(u,ru,lk):=hl j x v a1.symm ac (M.elim (λz=>.inr (.inl z)) λz=>.inr (.inr z));show {u,ru,?_};let(z,_)||(_,c,ec,y):=lk
    ·let q||q:=M
     ·rw[z]at q;cases q
     ·rw[z]at q;cases q
    ·let(c',B):=cB (env:=X.env) scope.names [] x (PySem.mem_of_lookup t)
     have:c'=c:=vb ((I.clLook S B).symm.trans ec);subst this;show .inr {mP (env:=X.env) t,c',B,y.keeps k}
 ·let(v,z):=I.cell x c (I.clLook S e)
  show {v,z.keeps k}
 ·show upd H D _ C=8
  rw[af ab.symm];show I.hok.fresh hC
 ·let(v,o,z,_):=I.cell x c (I.clLook S e)
  rw[af (lt c o z)];show I.freeC x c (I.clLook S e)
def ao.compBack{scope:JT}{a:7 (mu×Ky)}(I:ao X pins σ H s)(i:∀b∈j,cy X pins H b)
  (J:ao (cC X scope N' C s H j E) a q n s'):ao X pins σ n s':=
 I.call' (ch:=j) J.os J.base J.hok J.bare λb e=>{(i b e).2.2.2.1,(i b e).2.1,(i b e).2.2.2.2.1,(i b e).2.2.2.2.2}
def jV(X:Cx)(pins:7 (mu×Ky))(σ:St)(Q:VK)(b:n5)(C:mu)(r:PJ)(s':pe):Prop:=
 match r with
 | .ok _=>∃p a m,b=.ref p/\ao X pins σ a s'/\cy X pins a C/\s'.heap.Ns C m/\Q (.ref p) a
 | .error _=>False
def qH{scope:JT}(hc:X.calm=6)(S:wD X scope N' cap)(hi:PI X tg iter wi)
  (hg:∀C a M j,PG (cC X scope N' C a M j λ_ _=>False) tg g) (ht:∀C a M j,rW (cC X scope N' C a M j λ_ _=>False) a5 bn)
  (he:∀C a M j,PE (cC X scope N' C a M j λ_ _=>False) a0 te) (I:ao X pins σ H s) (h:nH wi cap g bn te σ H Q):
  wpAny (model X.prog X.w) X.A (eval iter X.env) (λx s1=>wpAny (model X.prog X.w) X.A (PM x) (λit a=>wpAny (model X.prog X.w) X.A (newList []) (λaC s3=>
   wpAny (model X.prog X.w) X.A (Mz scope X.env.globals (aI X.env scope.names []) [] X.env.qual 8 .none (!X.env)) (λac s4=>
    K0 (model X.prog X.w) X.A (.compStart (.ListComp a0 [{tg,iter,a5,0}] scope bm) 0 it aC { ac with scope:=relabel scope X.env }) (jV X pins σ Q aC ac.locals) s4) X.xe s3) X.xe a) X.xe s1) X.xe s:=by
 show aJ (hi pins s σ H _ I h) λv s1 h1=>aJ h1 λbo a h2=>?_;let(it,j,tn,J,M,e,I2,T,as,f2,q):=h2;subst e;have ho:∀b∈j,b<↑a:=λb f=>by
  let(o,e,_):=T.obj _ _ as b f;show xE e
 show Kq (Ng S.nocell (by intro y hy;simp at hy) (λO a4 an=>?_) S.kind);have a2:↑a≠(a.heap.push { cls:=.type "list",dict:=8,data:=.seq ([]:7 n5).toArray }).objs.size:=by rw[Jl];show vu (JG _)
 have l:↑a<=(a.heap.push { cls:=.type "list",dict:=8,data:=.seq ([]:7 n5).toArray }).objs.size:=by rw[Jl];show Lc _
 have old:∀b o,a.heap.get? b=!o->O.get? b=!o:=λb o e=>
  an.extBut b o (vu (ti (xE e) l)) (pu _ (pu _ e))
 have a3:O.get? ↑a=some { cls:=.type "list",data:=.seq #[] }:=an.extBut _ _ a2 (pu _ (y8 _ 9))
 let t:Cx:=cC X scope N' (a.heap.push { cls:=.type "list",dict:=8,data:=.seq ([]:7 n5).toArray }).objs.size a M j λ_ _=>False
 let(W,(m0,w0),a7):=q ↑a (I2.hok.fresh (oN _));have J0:ao t [] (rV cap σ) (upd M ↑a (.lst [])) { a with heap:=O,toks:=a.toks+([]:7 (xD×n5)).length }:=I2.compStart S (oN _) l a2 f2 ho old a3 a4;have A:∀{E:Hp},(∀b∈j,E b=8)->∀b∈j,cy t [] E b:=λhn b f=>by
  let(_,g1,g2,g3,g4,g5):=f2 b f;show {hn b f,vu (ti (ho b f) l),J0.ok.exfs b f,.inl f,λx c e=>g4 x c (I2.clLook S e),λp hp=>absurd (show p∈([]:7 (mu×Ky)) from hp) (by simp)}
 have bb:∀b∈j,upd M ↑a (.lst []) b=8:=λb f=>by rw[af (vu (ho b f))];show (f2 b f).1
 have ap:K0 (model X.prog X.w) X.A (.compLoop (.ListComp a0 [{tg,iter,a5,0}] scope bm) 0 (.ref it) (.ref ↑a) t.env)
   (jV X pins σ Q (.ref ↑a) (a.heap.push { cls:=.type "list",dict:=8,data:=.seq ([]:7 n5).toArray }).objs.size) { a with heap:=O,toks:=a.toks+([]:7 (xD×n5)).length }:=by
  show mQ 9 (λn s'=>∃i B E,ao t [] B E s'/\tn i s'.heap/\(∀b∈j,E b=8)/\W i n B E) ?_ m0 {0,_,_,J0,T.keep _ _ _ as λb _ o e=>old b o e,bb,w0};rintro n s3 ⟨i,U,H3,I3,a6,a1,w3⟩;have no:∀(e:n5) (s':pe),t.xe e s'->notedBy (model X.prog X.w) X.A t.env (λe s'=>jV X pins σ Q (.ref ↑a) (a.heap.push { cls:=.type "list",dict:=8,data:=.seq ([]:7 n5).toArray }).objs.size (.error e) s') e s':=λ_ _ z=>z.elim;let(stop,qn)||(go,N,hN,step):=a7 i n U H3 w3
  ·show Jg (T.done t 9 9 9 hc i [] s3 U H3 t.xe I3 (A a1) a6 stop) (λr s4 ⟨hr,I4⟩=>?_) no
   subst hr;let(mC,bd,_):=I4.loc;show {_,H3,mC,9,I2.compBack f2 I4,I2.fpOk l I4.free,bd,qn}
  ·show Jg (T.item t 9 9 9 hc i [] s3 U H3 t.xe I3 (A a1) a6 go) (λr s4 ⟨u,hr,h4⟩=>?_) no
   subst hr;show Jg h4 (λ_ s5 ⟨x,H5,I5,r5,y5,aA,bc⟩=>?_) no;have a8:=I5.pinned (A bc) (T.obj _ _ aA);show Jg (hg _ _ _ _ _ s5 U H5 x u _ a8 r5 (step x H5 y5)) (λ_ s6 ⟨ab,H6,I6,q6⟩=>?_) no;show Jg (ht _ _ _ _ _ s6 ab H6 _ I6 q6) (λok s7 ⟨H7,I7,q7⟩=>?_) no;have again:∀{D:St} {H7:Hp} {s7:pe},ao t ([]++ld j s5.heap) D H7 s7->N D H7->∃m,m<n/\∃i B E,ao t [] B E s7/\tn i s7.heap/\(∀b∈j,E b=8)/\W i m B E:=λ{D H7 s7} I7 n7=>by
    let(m',hm,w7):=hN D H7 n7;show {m',hm,i+1,D,H7,I7.unpinned,T.keep _ _ _ aA λb f o e=>(I7.pin (b,o) (xC _ (xC _ (bO f e)))).1,λb f=>?_,w7};let(o,e,d):=T.obj _ _ aA b f;show (I7.pin (b,o) (xC _ (xC _ (bO f e)))).2.1
   cases ok with
   | false=>show again I7 q7
   | true=>
    show Jg (he _ _ _ _ _ s7 ab H7 _ I7 q7) (λy s8 ⟨z,H8,I8,r8,xs,e8,l8,q8⟩=>?_) no;show Jg (jU (X:=t) _ s8 ab H8 (.ref ↑a) [z] (.ref ↑a) [y] (λ_ H9=>N ab H9) I8 9 (.cons r8 .nil) {_,xs,z,9,9,e8,l8,q8}) (λ_ s9 ⟨_,H9,I9,_,q9⟩=>?_) no;show again I9 q9
 show MA ap (T.self _ 0 _ _ _ (T.keep _ _ _ as λb _ o e=>old b o e) ap)
def wE{scope:JT}(hc:X.calm=6)(S:wD X scope N' cap)(hi:PI X u iter wi)
  (O:∀C a d f,PG (cC X scope N' C a d f λ_ _=>False) u g) (U:∀C a d f,rW (cC X scope N' C a d f λ_ _=>False) j l)
  (N:∀C a d f,PE (cC X scope N' C a d f λ_ _=>False) i te) (hs:∀x,LB iter X.env x=pure x:=by intro _;rfl):
  PE X (.ListComp i [{u,iter,j,0}] scope pos) (nH wi cap g l te):=by
 intro pins s σ H Q I h;rw[Ps];show Ll (use:=8) 9 hs (e9 (I.cellOf S)) S.kind S.names (aJ (qH (Q:=Q) hc S hi O U N I h) λxv s1 A=>aJ A λit a B=>aJ B λz s3 D=>aJ D λn s4 E=>KC E λr s5 t=>?_);cases r with
 | error e=>show JB t
 | ok fl=>
  let(p,v,m,9,y,c,T,q):=t;show {m,T,λh' sb=>{.ref p,v,?_,9,q}};show y.turned (t':=s5.toks) (λb o M e=>sb.extBut b o M e) c.1 c.2.1 c.2.2.2.1 c.2.2.2.2.1 c.2.2.2.2.2
def gX{scope:JT}(hN:X.N.Nodup)(hx:X.N[i]?=!x)(T:X.env.scope.names.lookup x=!.local)
  (hc:X.calm=6) (S:wD X scope N' cap) (hi:PI X A iter wi)
  (hg:∀C n t y,PG (cC X scope N' C n t y λ_ _=>False) A g) (ht:∀C n t y,rW (cC X scope N' C n t y λ_ _=>False) l N)
  (he:∀C n t y,PE (cC X scope N' C n t y λ_ _=>False) j te)
  (B:Mm (.ListComp j [⟨A,iter,l,0⟩] scope d) (!.Name x c) E.line X.env=pure 6:=by rfl) (hs:∀x,LB iter X.env x=pure x:=by intro _;rfl):
  PS X (.Assign [.Name x c] (.ListComp j [{A,iter,l,0}] scope d) E) (Ci (nH wi cap g N te) (kD i)):=by
 intro pins s σ H D I h;rw[exec_Assign_Name_used _ _ _ _ B];show mi (Ko (mi ?_));show wpAny (model X.prog X.w) X.A (do let _ <- comprehension (.ListComp j [{A,iter,l,0}] scope d) scope X.env _ (newList []) false (eval iter X.env) (some (assign (.Name x c) X.env))) _ _ s;show mi (aJ (Ll (use:=!assign (.Name x c) X.env) (Q:=λ_ s'=>SP X pins D .next s') 9 hs (e9 (I.cellOf S)) S.kind S.names
  (aJ (qH (Q:=λv H1=>kD i v σ H1 D.nx) hc S hi hg ht he I h) λxv s1 h1=>aJ h1 λit n h2=>aJ h2 λab s3 h3=>aJ h3 λu s4 h4=>KC h4 λr s5 O=>?_)) λ_ s' hq=>ri (ri hq))
 cases r with
 | error e=>show JB O
 | ok fl=>
  let(p,U,m,9,I',f,hn,q):=O;show (wpAny_assign_Name (qx (v:=V.ref p) I' hN hx (.inl T) 9 (λs6 I6 ⟨a,M,ha⟩=>?_) (.inr T)):wpAny (model X.prog X.w) X.A (assign (.Name x c) X.env (.ref p)) _ _ s5);have aC:u.locals≠a:=by
   let z||z:=ha
   ·rw[z];show f.2.1
   ·show λw'=>f.2.2.2.2.1 _ _ z w'.symm
  show {m,hn.sameBut M aC,λh' sb=>{_,U,?_,q}};show I6.turned (t':=s6.toks) (λb o hb e=>sb.extBut b o hb e) f.1 f.2.1 f.2.2.2.1 f.2.2.2.2.1 f.2.2.2.2.2
end
def aW{K:PySem.W.Frag}{a p:mu}{xs:7 V}{g:TG}{f:TT}{te:TE}{Q:Hp->Prop}{σ:St}{H:Hp}(Pv:4->St->Hp->Prop)(o:Pv 0 σ H)(s:∀i σ H,i<=xs.length->Pv i σ H->ak K H a xs)
  (hs:∀i x σ H,xs[i]?=!x->Pv i σ H->g x σ H λb n=>f b n λc h=>if c=6 then te b h λy j=>∃ys,j p=!.lst ys/\ys.length<sizeLine/\Pv (i+1) b (upd j p (.lst (ys++[y]))) else Pv (i+1) b h)
  (r:∀σ H,Pv xs.length σ H->Q H):tN (F4 K a) g f te p Q σ H:=by
 show {λi m σ H=>m=xs.length-i/\i<=xs.length/\Pv i σ H,⟨xs.length,by simp,Jd _,o⟩,?_};rintro i m σ H ⟨rfl,hi,p⟩;have q:=s i σ H hi p
 by_cases d:i<xs.length
 ·show .inr {⟨xs,xs[i],q,by simp[d]⟩,Pv (i+1),λu l t=>{xs.length-(i+1),(),9,d,t},λx l y=>?_}
  let(e,y):=y;subst e;show hs i x σ _ (y xs q) p
 ·have e:i=xs.length:=()
  subst e;show .inl {{xs,q,oN _},r σ H p}
def dn{p:mu}{lo:3}{n:4}{g:TG}{d:TT}{te:TE}{Q:Hp->Prop}{σ:St}{H:Hp}(Pv:4->St->Hp->Prop)(o:Pv 0 σ H)
  (hs:∀i σ H,i<n->Pv i σ H->g (.int (lo+i)) σ H λa l=>d a l λc f=>if c=6 then te a f λy h=>∃ys,h p=!.lst ys/\ys.length<sizeLine/\Pv (i+1) a (upd h p (.lst (ys++[y]))) else Pv (i+1) a f)
  (q:∀σ H,Pv n σ H->Q H):tN (D2 lo n) g d te p Q σ H:=by
 show {λi m σ H=>m=n-i/\i<=n/\Pv i σ H,⟨n,by simp,Jd _,o⟩,?_};rintro i m σ H ⟨rfl,hi,p⟩
 by_cases b:i<n
 ·show .inr {b,Pv (i+1),λs j r=>{n-(i+1),(),9,b,r},λx j y=>?_}
  let(e,y):=y;subst e y;show hs i σ _ b p
 ·have e:i=n:=()
  subst e;show .inl {oN _,q σ H p}
section
variable {X:Cx} {pins:7 (mu×Ky)} {σ:St} {H:Hp} {s:pe} {h':Jz}
def ao.turnedLaid{t':4}{ch:7 mu}{a:mu}{o:HO}(I:ao X pins σ H s)(t:∀b∈ch,cy X pins H b)(k:∀b i,b∉ch->s.heap.get? b=!i->h'.get? b=!i)(hp:↑s<=a)
  (new:aS X.prog X.w (upd H a o) h' a o):ao X pins σ (upd H a o) { s with heap:=h',toks:=t' }:=by
 have B:=I.hok.fresh hp;have C:∀b u,H b=!u->b∉ch:=λb u e j=>by
  have z:=(t b j).1;rw[z]at e;cases e
 have lt:∀b i,s.heap.get? b=!i->b≠a:=λb i e=>vu (ti (xE e) hp);show I.step (g':=s.gens) (d':=s.drawn) (ch:=ch) (λb j=>{(t b j).2.2.2.1,(t b j).2.1,(t b j).2.2.2.2.1,(t b j).2.2.2.2.2}) (λb i _ _ hc e _=>k b i hc e) (λb i _ _ hc e _=>{i.slots,k b i hc e})
  (λb i _ e n=>by rw[af (lt b i e)];show n) (λb i hc e=>{i,k b i hc e}) (λb xs e=>by rw[af (ae e B)];show e) (λb i u e=>by rw[af (ae e B)];show e)
  (λb pl y e=>by rw[af (ae e B)];show e) (λm M=>?_) (λb u e=>?_) I.bare
 ·let(i,E,D,O,r):=M
  show {i,E,D,k _ i (λz=>(t _ z).2.1 9) O,r}
 ·by_cases j:b=a
  ·subst j
   rw[aa]at e;cases e;show new
  ·rw[af j]at e
   show (I.hok b u e).stay (λc v hc q=>k c v ?_ q) (λc q=>by rw[af (ae q B)];show q) (λc xs q=>by rw[af (ae q B)];show q) λc i y q=>by rw[af (ae q B)];show q
   let 9||hc:=hc
   ·show C c u e
   ·show C c _ hc
def ao.turnedAll{t':4}{ch:7 mu}(I:ao X pins σ H s)(j:∀b∈ch,cy X pins H b)(k:∀b a,b∉ch->s.heap.get? b=!a->h'.get? b=!a):ao X pins σ H { s with heap:=h',toks:=t' }:=by
 have t:∀b u,H b=!u->b∉ch:=λb u e i=>by
  have z:=(j b i).1;rw[z]at e;cases e
 show I.step (g':=s.gens) (d':=s.drawn) (ch:=ch) (λb i=>{(j b i).2.2.2.1,(j b i).2.1,(j b i).2.2.2.2.1,(j b i).2.2.2.2.2}) (λb a _ _ hc e _=>k b a hc e) (λb a _ _ hc e _=>{a.slots,k b a hc e})
  (λb a _ _ n=>n) (λb a hc e=>{a,k b a hc e}) (λb xs e=>e) (λb a u e=>e) (λb pl y e=>e) (λm D=>?_) (λb u e=>?_) I.bare
 ·let(a,C,B,E,r):=D
  show {a,C,B,k _ a (λz=>(j _ z).2.1 9) E,r}
 ·show (I.hok b u e).stay (λc v hc q=>k c v ?_ q) (λc q=>q) (λc xs q=>q) λc a y q=>q
  let 9||hc:=hc
  ·show t c u e
  ·show t c _ hc
end
def GU(K:PySem.W.Frag)(a:mu):It:=
 {λi H=>∃xs x,ak K H a xs/\xs[i]?=!x,λi H v b=>∃t x,v=.ref t/\H t=8/\b=upd H t (.tup [.int i,x])/\∀xs,ak K H a xs->xs[i]?=!x,λi H=>∃xs,ak K H a xs/\xs.length<=i}
def rX {P:IY} {w:Je} (r:az xs us) (b:xs.length<=sizeLine) (e:h.get? a=some { cls:=.type "tuple",data:=.seq us.toArray n }):aS P w H h a (.tup xs):=
 {b,us,r,_,e,9,_,9}
def yI{P:IY}{w:Je}{K:PySem.W.Frag}{es:7 JF}{k:4}{ab:LM}(a e it:mu)(n:e≠it):uX P w K (.Tuple es k ab) (GU K a) [e,it] e (λi h=>(∃old,IsEnum h e it i old)/\h.IsListIter it a i) where
 mem:=by simp
 obj:=λi h st b hb=>by
  let((old,f),o,T,c,d):=st;let z||hb:=Jb.mp hb
  ·subst z
   show ⟨_,f,λv q=>by
    have q':Nf _=MY v:=q;cases q'⟩
  ·have z:b=it:=by simpa using hb
   subst z;show ⟨o,T,λv q=>by rw[d]at q;cases q⟩
 keep:=λi h h' st k=>⟨let ⟨old,f⟩:=st.1;{old,k e (by simp) _ f},st.2.at λo q=>k it (by simp) o q⟩
 item:=by
  intro X D hw C hc i y s σ H E I A st O;subst D hw C;let(xs,x,B,U):=O;let(its,rv,p,hz):=I.list B;let(u,hu,ru):=rv.get U;let((old,f),j):=st;show wpAny_pyNext_enum_item f j p.isList (x:=u) (by simpa using hu) n λh1 T t hT hsz hk=>{_,9,?_};have r:e<↑s:=xE f;have Q:it<↑s:=by let(_,q,_):=j;show xE q
  show wpAny_letOwnedTupleGo_enum T λh2 N l=>?_;show ⟨.ref ↑s,upd H ↑s (.tup [.int i,x]),?_,9,⟨_,x,9,I.hok.fresh (oN _),9,λys hy=>by rw[I.list_inj hy B];show U⟩,{⟨u,by simpa using N⟩,t.at λo q=>(l.2 it n.symm).trans q},λb hb=>?_⟩
  ·show I.turnedLaid (ch:=[e,it]) A (λb ob hb q=>(l.2 b λz=>hb (by simp[z])).trans (hk b ob (λz=>hb (by simp[z])) (λz=>hb (by simp[z])) q)) (oN _) ?_
   show rX (us:=[.int i s.toks,u]) (.cons {_,9} (.cons ru .nil)) (by show 2<=sizeLine;decide) ((l.2 _ (Kg r)).trans hT)
  ·have M:b<↑s:=by
    let z||hb:=Jb.mp hb
    ·rw[z];show r
    ·rw[show b=it by simpa using hb];show Q
   rw[af (vu M)];show (A b hb).1
 done:=by
  intro X D hw C hc i y s σ H E I A st O;subst D hw C;let(xs,B,U):=O;let(its,rv,p,hz):=I.list B;let((old,f),j):=st;have hl:=rv.length;show wpAny_pyNext_enum_end (I.ok.hd hc) f j p.isList (by simp;omega) λh1 eb=>{9,I.turnedAll (t':=s.toks) (ch:=[e,it]) A λb ob hb q=>eb b ob (λz=>hb (by simp[z])) q}
 self:=λ_ _ _ _ _ st h=>let ⟨⟨_,f⟩,_⟩:=st;wpAny_pyIter_enum f h
def yJ:Js ("enumerate":xD)=!.type "enumerate":=by first | show PyProof.Rows.Boot.«enumerate» | show PySem.boot_enumerate | rfl | decide +kernel
def qI:Js ("zip":xD)=!.type "zip":=by first | show PyProof.Rows.Boot.«zip» | show PySem.boot_zip | rfl | decide +kernel
inductive IN(K:PySem.W.Frag)(vs:7 V)(H:Hp)(R:It->Hp->Prop):Prop
 | mk (a:_):vs=[.ref a]->(∃xs,ak K H a xs)->R (GU K a) H->IN K vs H R
def Eb(K:PySem.W.Frag)(a:TA):TI:=λσ H R=>a σ H λvs H1=>IN K vs H1 R
def CC {X:Cx} {x:7 JF} {k:4} {j:LM} {l:JF} {t:TA} {p i:LM} (B:Gl X "enumerate") (D:X.mg "enumerate"=8) (A:PA X [l] t) (hs:starEach [l] X.env=[(5,eval l X.env)]:=by rfl):PI X (.Tuple x k j) (.Call (.Name "enumerate" p) [l] [] i) (Eb X.K t):=by
 intro c s σ H R I h;show Call_ (cZ I B D yJ (Jx (aJ (A i c s σ H _ I h) λus d ⟨vs,H1,n,M,q1⟩=>?_) hs 9));let(a,e,(xs,E),q):=q1;subst e;let(u,9,N):=gj M;cases N;let(its,Q,pl,O):=n.list E;show call_enumerate_list pl.isList λy r o hsz C=>?_;have v:ao X c σ H1 { d with heap:=y }:=n.kept (t':=d.toks) C;show wpAny_pyIter_enum r {↑d+1,[↑d+1,↑d],_,_,H1,9,v,yI a _ _ (Kg (JG _)),{{_,r},o},λb hb=>?_,q};have f:↑d<=b:=by
  let z||hb:=Jb.mp hb
  ·rw[z];show Lc _
  ·rw[show b=↑d by simpa using hb];show oN _
 show n.fpOk f (n.hok.fresh f)
def Iu(K:PySem.W.Frag)(a b:mu):It:=
 ⟨λi H=>∃xs ys x y,ak K H a xs/\ak K H b ys/\xs[i]?=!x/\ys[i]?=!y,
  λi H v c=>∃t x y,v=.ref t/\H t=8/\c=upd H t (.tup [x,y])/\(∀xs,ak K H a xs->xs[i]?=!x)/\∀ys,ak K H b ys->ys[i]?=!y,
  λi H=>∃xs ys,ak K H a xs/\ak K H b ys/\(xs.length<=i\/ys.length<=i)⟩
def GV{i1 a TI TO z b c:4}(d:i1<a)(e:a<TI)(f:TI<TO)(h:TO<z)(i:b<i1)(j:c<i1):ZipApart z TI TO i1 a b c:=by
 show {?_,?_,?_,?_,?_,?_,?_,?_,?_,?_,?_,?_,?_,?_,?_,?_,?_,?_}<;>first | show vu () | show Kg ()
def As{P:IY}{w:Je}{K:PySem.W.Frag}{es:7 JF}{k:4}{as:LM}(a b z TI TO i1 u:mu)(D:ZipApart z TI TO i1 u a b):
  uX P w K (.Tuple es k as) (Iu K a b) [z,TI,TO,i1,u] z (λi h=>NE h z TI TO .none/\IsPair h TI (.ref i1) (.ref u)/\(∃x y,IsPair h TO x y)/\h.IsListIter i1 a i/\h.IsListIter u b i) where
 mem:=by simp
 obj:=λi h st c d=>by
  let(B,f,(x,y,j),(o1,e1,c1,d1),o2,e2,c2,d2):=st;simp only[Jb,Lf,or_false]at d;let 9||9||9||9||9:=d
  ·show ⟨_,B,λv q=>by
    have O:Nf _=MY v:=q;cases O⟩
  ·show ⟨_,f,λv q=>by
    have O:Data.seq _ _=MY v:=q;cases O⟩
  ·show ⟨_,j,λv q=>by
    have O:Data.seq _ _=MY v:=q;cases O⟩
  ·show ⟨_,e1,λv q=>by rw[d1]at q;cases q⟩
  ·show ⟨_,e2,λv q=>by rw[d2]at q;cases q⟩
 keep:=λi h h' st k=>⟨k z (by simp) _ st.1,k TI (by simp) _ st.2.1,let ⟨x,y,q⟩:=st.2.2.1;{x,y,k TO (by simp) _ q},st.2.2.2.1.at λo q=>k i1 (by simp) o q,st.2.2.2.2.at λo q=>k u (by simp) o q⟩
 item:=by
  intro X hP hw hK hc i N s σ H E I Q st hg;subst hP hw hK;let(xs,ys,x,y,r,t,hx,hy):=hg;let(C,rv1,p1,an):=I.list r;let(M,A,p2,ap):=I.list t;let(u1,ab,aA):=rv1.get hx;let(u2,ac,aC):=A.get hy;let(B,f,(x0,y0,j),n,p):=st;show wpAny_pyNext_zip_item D B f j n p p1.isList p2.isList (x:=u1) (y:=u2) (by simpa using ab) (by simpa using ac) λh1 gz T g1 g2 gT a0 gk=>{_,9,?_};have lz:z<↑s:=xE B;have lT:∀c∈[z,TI,TO,i1,u],c<↑s:=λc d=>by
   simp only[Jb,Lf,or_false]at d;let 9||9||9||9||9:=d
   ·show lz
   ·show xE f
   ·show xE j
   ·let(_,q,_):=n;show xE q
   ·let(_,q,_):=p;show xE q
  show NN gz λh2 U l=>?_;show ⟨.ref ↑s,upd H ↑s (.tup [x,y]),?_,9,⟨_,x,y,9,I.hok.fresh (oN _),9,λvs hv=>by rw[I.list_inj hv r];show hx,λvs hv=>by rw[I.list_inj hv t];show hy⟩,
   {U,l.extBut _ _ D.TIz (gk _ _ D.TIz D.TITO D.TIi1 D.TIi2 f),{_,_,l.extBut _ _ D.TOz T},g1.at λo q=>l.extBut _ _ D.i1z q,g2.at λo q=>l.extBut _ _ D.i2z q},λc d=>?_⟩
  ·show I.turnedLaid (ch:=[z,TI,TO,i1,u]) Q (λc ob d q=>l.extBut _ _ (λe=>d (by simp[e])) (gk c ob (λe=>d (by simp[e])) (λe=>d (by simp[e])) (λe=>d (by simp[e])) (λe=>d (by simp[e])) q)) (oN _) ?_
   show rX (us:=[u1,u2]) (.cons aA (.cons aC .nil)) (by show 2<=sizeLine;decide) (l.extBut _ _ (Kg lz) gT)
  ·rw[af (vu (lT c d))]
   show (Q c d).1
 done:=by
  intro X hP hw hK hc i N s σ H E I Q st hg;subst hP hw hK;let(xs,ys,r,t,hx):=hg;let(C,rv1,p1,an):=I.list r;let(M,A,p2,ap):=I.list t;let(B,f,(x0,y0,j),n,p):=st;have a1:=rv1.length;have a2:=A.length;show wpAny_pyNext_zip_end (I.ok.hd hc) D B f j n p p1.isList p2.isList ?_ λh1 eb=>{9,I.turnedAll (t':=s.toks) (ch:=[z,TI,TO,i1,u]) Q λc ob d q=>eb c ob (λe=>d (by simp[e])) (λe=>d (by simp[e])) (λe=>d (by simp[e])) (λe=>d (by simp[e])) q};let hx||hx:=hx
  ·show .inl (by simp;omega)
  ·show .inr (by simp;omega)
 self:=λ_ _ _ _ _ st h=>M5 st.1 h
inductive IO(K:PySem.W.Frag)(vs:7 V)(H:Hp)(R:It->Hp->Prop):Prop
 | mk (a:_) (b:_):vs=[.ref a,.ref b]->(∃xs,ak K H a xs)->(∃ys,ak K H b ys)->R (Iu K a b) H->IO K vs H R
def GW(K:PySem.W.Frag)(a:TA):TI:=λσ H R=>a σ H λvs H1=>IO K vs H1 R
def Fc {X:Cx} {T:7 JF} {k:4} {r:LM} {l m:JF} {O:TA} {p n:LM} (hg:Gl X "zip") (hm:X.mg "zip"=8) (ha:PA X [l,m] O) (hs:starEach [l,m] X.env=[(5,eval l X.env),(5,eval m X.env)]:=by rfl) (hs2:starEach [m] X.env=[(5,eval m X.env)]:=by rfl):
  PI X (.Tuple T k r) (.Call (.Name "zip" p) [l,m] [] n) (GW X.K O):=by
 intro f s σ H R I h;show Call_ (cZ I hg hm qI (Jx (aJ (ha n f s σ H _ I h) λus d ⟨vs,H1,i,r1,q1⟩=>?_) (by rw[hs,hs2]) (by rw[hs2];rfl)));let(a,b,e,(xs,x),(ys,y),q):=q1;subst e;let(u,w',9,ru,z):=tI r1;cases ru;cases z;let(C,rv1,M,ac):=i.list x;let(E,ap,N,an):=i.list y;have la:a<↑d:=by let(_,o,_):=M.isList;show xE o
 have lb:b<↑d:=by let(_,o,_):=N.isList;show xE o
 show call_zip_2 M.isList N.isList λh1 A t v U g2 ab hk=>?_;have Q:ao X f σ H1 { d with heap:=h1 }:=i.kept (t':=d.toks) hk;have D:ZipApart (↑d+04) (↑d+2) (↑d+03) ↑d (↑d+1) a b:=GV (i1:=↑d) (JG _) (JG _) (JG _) (JG _) la lb;show M5 A {↑d+04,[↑d+04,↑d+2,↑d+03,↑d,↑d+1],_,_,H1,9,Q,As a b _ _ _ _ _ D,{A,t,{_,_,v},U,g2},λc B=>?_,q};have j:↑d<=c:=by
  simp only[Jb,Lf,or_false]at B;let 9||9||9||9||9:=B<;>first | show oN _ | show Nat.le_add_right _ _
 show i.fpOk j (i.hok.fresh j)
def tO{K:PySem.W.Frag}{a:mu}{xs:7 V}{g:TG}{l:TS}{D:bN}{σ:St}{H:Hp}(Pv:4->St->Hp->Prop)(n:Pv 0 σ H)(r:∀i σ H,i<=xs.length->Pv i σ H->ak K H a xs)
  (hs:∀i x t σ H,xs[i]?=!x->Pv i σ H->H t=8->g (.ref t) σ (upd H t (.tup [.int i,x])) λd h=>l (D.lp (Pv (i+1))) d h) (o:∀σ H,Pv xs.length σ H->D.nx σ H):
  ∃W:4->4->St->Hp->Prop,(∃m,W 0 m σ H)/\∀i m σ H,W i m σ H->
   ((GU K a).stop i H/\D.nx σ H)\/((GU K a).go i H/\∃N:St->Hp->Prop,(∀c b,N c b->∃j,j<m/\W (i+1) j c b)/\∀x b,(GU K a).yld i H x b->g x σ b λd h=>l { D with nx:=N,ct:=N,bk:=D.nx } d h):=by
 show {λi m σ H=>m=xs.length-i/\i<=xs.length/\Pv i σ H,⟨xs.length,by simp,Jd _,n⟩,?_};rintro i m σ H ⟨rfl,hi,p⟩;have q:=r i σ H hi p
 by_cases f:i<xs.length
 ·show .inr {⟨xs,xs[i],q,by simp[f]⟩,Pv (i+1),λc b u=>{xs.length-(i+1),(),9,f,u},λx b y=>?_}
  let(t,z,9,s,9,y):=y;show hs i z t σ H (y xs q) p s
 ·have e:i=xs.length:=()
  subst e;show .inl {{xs,q,oN _},o σ H p}
def jW{K:PySem.W.Frag}{a b p:mu}{xs ys:7 V}{g:TG}{f:TT}{te:TE}{Q:Hp->Prop}{σ:St}{H:Hp}(Pv:4->St->Hp->Prop)(r:Pv 0 σ H)(u:∀i σ H,Pv i σ H->ak K H a xs/\ak K H b ys)
  (hs:∀i x y t σ H,xs[i]?=!x->ys[i]?=!y->Pv i σ H->H t=8->g (.ref t) σ (upd H t (.tup [x,y])) λd q=>f d q λc l=>if c=6 then te d l λy n=>∃zs,n p=!.lst zs/\zs.length<sizeLine/\Pv (i+1) d (upd n p (.lst (zs++[y]))) else Pv (i+1) d l)
  (s:∀σ H,Pv (min xs.length ys.length) σ H->Q H):tN (Iu K a b) g f te p Q σ H:=by
 show {λi m σ H=>m=min xs.length ys.length-i/\i<=min xs.length ys.length/\Pv i σ H,⟨min xs.length ys.length,by simp,Jd _,r⟩,?_};rintro i m σ H ⟨rfl,hi,p⟩;let(q1,j):=u i σ H p
 by_cases h:i<min xs.length ys.length
 ·have A:i<xs.length:=()
  have B:i<ys.length:=()
  show .inr {⟨xs,ys,xs[i],ys[i],q1,j,by simp[A],by simp[B]⟩,Pv (i+1),λM o C=>{min xs.length ys.length-(i+1),(),9,h,C},λx o y=>?_};let(t,z,I,9,v,9,D,E):=y;show hs i z I t σ H (D xs q1) (E ys j) p v
 ·have e:i=min xs.length ys.length:=()
  subst e;show .inl {{xs,ys,q1,j,()},s σ H p}
section
variable {X:Cx}
def Au{bs:7 Bool}{us:7 n5}(r:az (bs.map V.bl) us){i:4}{v:n5}(e:us[i]?=!v):∃b,bs[i]?=!b/\v=.bool b:=by
 have hi:i<us.length:=(op.mp e).1;have a:i<bs.length:=by
  have:=r.length;rw[lj]at this;omega
 let(u,c,d):=r.get (i:=i) (x:=.bl bs[i]) (by rw[r6,li a];rfl);rw[e]at c;cases c;show {bs[i],li a,d}
def yK(bs:7 Bool):(IZ bs.length).any (λi=>bs.getD i 5)=bs.any id:=by
 rw[JO];simp only[List.any_eq_true,J9,id_eq]
 constructor
 ·rintro ⟨i,hi,e⟩
  show ⟨bs[i],Mo hi,by simpa[oa,hi] using e⟩
 ·rintro ⟨b,a,e⟩
  let(i,hi,q):=L9.mp a;show ⟨i,hi,by simp[oa,hi,q,e]⟩
def yL(bs:7 Bool):(IZ bs.length).all (λi=>bs.getD i 5)=bs.all id:=by
 rw[JO];simp only[Le,J9,id_eq]
 constructor
 ·intro h b a
  let(i,hi,q):=L9.mp a;have:=h i hi
  simpa[oa,hi,q] using this
 ·intro h i hi
  have:=h bs[i] (Mo hi)
  simpa[oa,hi] using this
def tP{A:Jq}(h:A.handled=8):A.in1.handled=8:=h
def pf{a:7 (mu×Ky)}{σ:St}{H:Hp}{s:pe}{p:mu}{bs:7 Bool}{E:n5->pe->Prop}{R:4->(4->Bool)->n5->pe->Prop}(hc:X.calm=6)(I:ao X a σ H s)(x:ak X.K H p (bs.map V.bl))
  (f:∀(It:mu) (n l:7 mu) (P:4->n5->Prop) (St:4->Jz->Prop) (c:pe),Walks X.prog X.w X.A.in1 It n l bs.length P St->St 0 c.heap->TruthOf X.prog X.w X.A.in1 P (λi=>bs.getD i 5)->
   (∀h' h,(∀b o,b∉l->c.heap.get? b=!o->h'.get? b=!o)->ao X a σ H { c with heap:=h',toks:=h })->R bs.length (λi=>bs.getD i 5) (.ref It) c):
  wpAny (model X.prog X.w) X.A.in1 (PM (.ref p)) (λit c=>R bs.length (λi=>bs.getD i 5) it c) E s:=by
 let(its,j,pl,C):=I.list x;show K9 pl.isList ?_;have lp:p<↑s:=by let(_,o,_):=pl.isList;show xE o
 have d:its.toArray.size=bs.length:=by rw[y9,<- j.length,lj]
 have W:=Walks.list (prog:=X.prog) (w:=X.w) (A:=X.A.in1) (tP (I.ok.hd hc)) ↑s p (vu lp) its.toArray;rw[d]at W;show f _ _ _ _ _ _ W {{_,y8 _ 9,9,9},pl.isList.push _} (λi v s' B y q r=>?_) (λh' h u=>?_)
 ·let(b,t,9):=Au (i:=i) (v:=v) j (by simpa using q)
  show JQ ?_;have:bs.getD i 5=b:=by rw[oa,t];rfl
  simpa only[this] using r
 ·show I.kept (t':=h) λb o e=>u b o (λz=>?_) (pu _ e)
  have:b=↑s:=by simpa using z
  show absurd (xE e) (by rw[this];show Kw _)
def yM(hc:X.calm=6):bq X (.builtin "any") (λxs H Q=>∃(p:mu) (bs:7 Bool),xs=[.ref p]/\ak X.K H p (bs.map V.bl)/\Q (.bl (bs.any id)) H):=by
 intro a s σ H xs us Q I r h;let(p,bs,9,l,q):=h;let(u,9,t):=gj r;cases t;show call_any_walk (pf hc I l (R:=λn c it d=>∃It f e n P St c,it=.ref It/\Walks X.prog X.w X.A.in1 It f e n P St/\St 0 d.heap/\TruthOf X.prog X.w X.A.in1 P c /\
  ∀h' i,(∀b o,b∉e->d.heap.get? b=!o->h'.get? b=!o)->EP X a σ Q (.bool ((IZ n).any c)) { d with heap:=h',toks:=i }) ?_)
 intro It f e P St d W st c k;show {It,f,e,_,P,St,_,9,W,st,c,λh' i j=>?_};rw[yK];show {.bl (bs.any id),H,k h' i j,9,q}
def yN(hc:X.calm=6):bq X (.builtin "all") (λxs H Q=>∃(p:mu) (bs:7 Bool),xs=[.ref p]/\ak X.K H p (bs.map V.bl)/\Q (.bl (bs.all id)) H):=by
 intro a s σ H xs us Q I r h;let(p,bs,9,l,q):=h;let(u,9,t):=gj r;cases t;show call_all_walk (pf hc I l (R:=λn c it d=>∃It f e n P St c,it=.ref It/\Walks X.prog X.w X.A.in1 It f e n P St/\St 0 d.heap/\TruthOf X.prog X.w X.A.in1 P c /\
  ∀h' i,(∀b o,b∉e->d.heap.get? b=!o->h'.get? b=!o)->EP X a σ Q (.bool ((IZ n).all c)) { d with heap:=h',toks:=i }) ?_)
 intro It f e P St d W st c k;show {It,f,e,_,P,St,_,9,W,st,c,λh' i j=>?_};rw[yL];show {.bl (bs.all id),H,k h' i j,9,q}
def yO(hc:X.calm=6):bq X (.builtin "sum") (λxs H Q=>∃(p:mu) (ns:7 3),xs=[.ref p]/\ak X.K H p (ns.map V.int)/\Q (.int ns.sum) H):=by
 intro c s σ H xs us Q I r h;let(p,ns,9,e,q):=h;let(u,9,f):=gj r;cases f;let(its,i,pl,_):=I.list e;have hi:=gU i;let(ys,a):=hi.allInts.items;show sum_intListG (I.ok.hd hc) (xs:=ys) (by rw[<- a];show pl.isList) λh' j t' d=>?_;show {.int ns.sum,H,I.kept (t':=j) d,?_,q};have b:(numsOf its.toArray.toList).sum=ns.sum:=by rw[show its.toArray.toList=its from 9,hi.numsOf]
 rw[a,nums_intItems]at b;rw[preSum_eq,JS (by simp),<- b];show ⟨t',9⟩
def tQ:bq X (.builtin "isinstance") (λxs H Q=>∃x c a t b,xs=[x,c]/\aE c a/\(∀u,aE c u->u=a)/\kd X.K H x t/\PL X.K t a=!b/\Q (.bl b) H):=by
 intro f s σ H xs us Q I r h;let(x,c,a,t,b,9,rc,inj,ty,e,q):=h;let(u,w',9,i,d):=tI r;cases inj w' d;show yG I i ty e λj=>{.bl b,H,I.tok j,9,q}
def dP:∀u,aE (.ty n) u->u=.type n:=λ_ h=>h
def wF:∀u,aE (.ref a) u->u=.ref a:=λ_ h=>h
inductive vi(K:PySem.W.Frag)(x y:V)(H:Hp)(Q:VK):Prop
 | mk (a:_) (b:_) (xs:_) (ys:_):x=.ref a->y=.ref b->b9 K H a xs->b9 K H b ys->xs.length+ys.length<=sizeLine->(xs=[]->Q (.ref b) H)->(xs≠[]->ys=[]->Q (.ref a) H)->(xs≠[]->ys≠[]->∀p,H p=8->Q (.ref p) (upd H p (.tup (xs++ys))))->vi K x y H Q
def Av:d4 X (KP .Add) (vi X.K):=by
 intro d s σ H x y v u Q I o p h;let(a,b,xs,ys,9,9,e,f,j,B,q1,C):=h
 by_cases c:xs=[]
 ·cases o
  cases p;let(its,n,t,_):=I.tuple e;let(l,D,A,_):=I.tuple f;let(m,F):=I.fr;have i:its=[]:=n.nil_iff.mpr c;show add_tuples (news:=[]) F (λq r=>by cases r) t A (λ_=>{.ref b,H,I,9,B c}) (λz=>absurd i z) (λz=>absurd i z) (by rw[<- n.length,<- D.length];show j)
 ·show Cu d s σ H _ _ v u Q I o p {a,b,xs,ys,9,9,e,f,c,j,q1 c,C c}
inductive Aw(K:PySem.W.Frag)(x:V)(vs:7 V)(H:Hp)(Q:VK):Prop
 | mk (z:xD) (p:mu) (ys:7 xD):x=.str z->vs=[.ref p]->ak K H p (ys.map V.str)->(ys.map (·.length)).sum+ys.length*z.length<=16777216->Q (.str (Txt.join z ys)) H->Aw K x vs H Q
def ph:∀{ys:7 xD} {us:7 n5},az (ys.map V.str) us->StrsAre us ys
 | [],_,.nil=>.nil
 | _::_,_,.cons r t=>by
  let(k,9):=r;show .cons _ _ (ph t)
def CD:GR X "str.join" (Aw X.K):=by
 intro a s σ H x xs v us Q I f r h;let(z,p,ys,9,9,b,c,q):=h;let(t,9):=f;let(u,9,d):=az.one r;cases d;let(its,e,pl,_):=I.list b;show join_list pl.isList (ph e) c λt' k=>{.str (Txt.join z ys),H,I.tok k,⟨t',9⟩,q}
end
open PySem.W (Dat) in
mutual
inductive DV(K:PySem.W.Frag)(H:Hp):V->PySem.W.Dat->Prop
 | non:DV K H .non .none
 | int (i:3):DV K H (.int i) (.int i)
 | str (x:xD):DV K H (.str x) (.str x)
 | lst {a:mu} {xs:7 V} {ds:7 PySem.W.Dat}:ak K H a xs->nI K H xs ds->DV K H (.ref a) (.list ds)
 | tup {a:mu} {xs:7 V} {ds:7 PySem.W.Dat}:b9 K H a xs->nI K H xs ds->DV K H (.ref a) (.tuple ds)
inductive nI(K:PySem.W.Frag)(H:Hp):7 V->7 PySem.W.Dat->Prop
 | nil:nI K H [] []
 | cons {x:V} {d:PySem.W.Dat} {xs:7 V} {ds:7 PySem.W.Dat}:DV K H x d->nI K H xs ds->nI K H (x::xs) (d::ds)
end
section
variable {X:Cx} {pins:7 (mu×Ky)} {σ:St} {H:Hp} {s:pe}
mutual
def DV.reads(I:ao X pins σ H s):∀{x:V} {d:PySem.W.Dat} {u:n5},DV X.K H x d->aE x u->∃as,Reads s.heap u (kqdP d) as
 | _,_,_,.non,r=>by cases r;show {_,Reads.none}
 | _,_,_,.int i,r=>by let(t,9):=r;show {_,Reads.int i t}
 | _,_,_,.str x,r=>by let(t,9):=r;show {_,Reads.str x t}
 | _,_,_,.lst j b,r=>by
  cases r;let(its,v,pl,_):=I.list j;let(as,q):=nI.reads I b v;let(o,e,hc,n,a):=pl.isList;rw[kqdP];show {_,reads_list_at e hc a (by simpa using q)}
 | _,_,_,.tup j b,r=>by
  cases r;let(its,v,pl,_):=I.tuple j;let(as,q):=nI.reads I b v;let(o,e,hc,n,a):=pl;rw[kqdP];show {_,reads_tuple_at e hc a (by simpa using q)}
def nI.reads(I:ao X pins σ H s):∀{xs:7 V} {a:7 PySem.W.Dat} {us:7 n5},nI X.K H xs a->az xs us->∃as,ReadsAll s.heap us (PySem.W.kqdPs a) as
 | _,_,_,.nil,r=>by cases r;show {_,ReadsAll.nil}
 | _,_,_,.cons b t,r=>by
  cases r with
  | cons e i=>
   let(as,q):=DV.reads I b e;let(bs,p):=nI.reads I t i;rw[PySem.W.kqdPs];show {_,ReadsAll.cons q p}
end
open Classical in
inductive Fd(K:PySem.W.Frag)(x y:V)(H:Hp)(Q:VK):Prop
 | mk (d:_) (e:_):DV K H x d->DV K H y e->kqdOk 09 d=6->kqdOk 09 e=6->Q (.bl (decide (d=e))) H->Fd K x y H Q
open Classical in
inductive Fe(K:PySem.W.Frag)(x y:V)(H:Hp)(Q:VK):Prop
 | mk (d:_) (e:_):DV K H x d->DV K H y e->kqdOk 09 d=6->kqdOk 09 e=6->Q (.bl ((not (decide (d=e))))) H->Fe K x y H Q
open Classical in
def wG(b:kqdOk 09 d=6)(c:kqdOk 09 e=6):PyData.eqv (kqdP d) (kqdP e)=decide (d=e):=by
 have q:=PySem.W.kqd_eqv 09 d e 09 b c
 by_cases a:d=e
 ·rw[decide_eq_true a];show q.mpr a
 ·rw[decide_eq_false a];show MB.mpr λz=>a (q.mp z)
def jX(h:kqdOk 09 d=6):SeqAt.shaped (kqdP d)=6:=by
 have l:=PySem.W.kqd_lay 09 d h;unfold SeqAt.shaped;rw[l.1,JA];show decide_eq_true (xM l.2 (by decide))
def Ff(f:X.A.units+64<NQ):d4 X (JX .Eq) (Fd X.K):=by
 intro a s σ H x y v u Q I j l h;let(d,e,b,c,k1,k2,q):=h;let(as,i):=b.reads I j;let(bs,rb):=c.reads I l;show eq_dataH i rb (jX k1) (jX k2) f ?_;rw[wG k1 k2];show {.bl _,H,I,9,q}
def Fg(f:X.A.units+64<NQ):d4 X (JX .NotEq) (Fe X.K):=by
 intro a s σ H x y v u Q I j l h;let(d,e,b,c,k1,k2,q):=h;let(as,i):=b.reads I j;let(bs,rb):=c.reads I l;show ne_dataH i rb (jX k1) (jX k2) f ?_;rw[wG k1 k2];show {.bl _,H,I,9,q}
end
end L2
namespace L2
open PySem PySem.Spec PyProof.Rows
section
variable {X:Cx}
def wH(K:PySem.W.Frag):R2:=λx y H Q=>zK (λi j=>.int (i+j)) x y H Q\/E8 x y H Q\/vi K x y H Q\/(∃i j,x=.str i/\y=.str j/\i.length+j.length<=sizeLine/\Q (.str (i++j)) H)\/Ea K x y H Q
def CF:d4 X (KP .Add) (wH X.K):=d4.or EL (d4.or E9 (d4.or Av (d4.or u8 CA)))
def Ec:R2:=λx y H Q=>rI Cm (λi j=>.int (i*j)) x y H Q\/Fa x y H Q
def CG:d4 X (KP .Mult) Ec:=d4.or EN Fb
def Fh(K:PySem.W.Frag):R2:=λx y H Q=>Il x y H Q\/Fd K x y H Q
def Fi(a:X.A.units+64<NQ):d4 X (JX .Eq) (Fh X.K):=d4.or GG (Ff a)
def GX(K:PySem.W.Frag):R2:=λx y H Q=>Im x y H Q\/Fe K x y H Q
def Fj(a:X.A.units+64<NQ):d4 X (JX .NotEq) (GX X.K):=d4.or GH (Fg a)
def nJ(K:PySem.W.Frag):R2:=λx y H Q=>Cw K x y H Q\/EY K x y H Q
def GY:B8 X (nJ X.K):=B8.or ww EZ
def GZ:V->7 V->Hp->VK->Prop:=λx vs H Q=>E6 x vs H Q\/vh x vs H Q
def wI:Al X "list.pop" GZ:=Al.or E7 Ar
end
structure fU(P:IY)(w:Je)(K:PySem.W.Frag)(mg:xD->Option n5)(base:Jz)(CX:oF)(k:4)(x:xD)(ps:7 xD)(sp:Sp):Prop where
 ex:∃f fd,cQ P w K mg base CX k f fd ps sp/\mg x=!.ref f/\Mf K (.ref f)=6/\cH K fd ps []
structure cM(P:IY)(w:Je)(K:PySem.W.Frag)(mg:xD->Option n5)(base:Jz)(CX:oF)(k:4)(C:mu)(m:xD)(ps:7 xD)(sp:Sp):Prop where
 cl:nt K C
 ex:∃f fd,cQ P w K mg base CX k f fd ps sp/\zM K C m f/\cH K fd ps []
structure lQ(P:IY)(w:Je)(K:PySem.W.Frag)(mg:xD->Option n5)(base:Jz)(CX:oF)(k:4)(x:xD)(C:mu)(ps:7 xD)(sp:Sp):Prop where
 at_:mg x=!.ref C
 ex:∃f fd,cQ P w K mg base CX k f fd ps sp/\Mk K C f/\cH K fd ps []
section
variable {X:Cx} {CX:oF} {k:4} {C:mu} {ps:7 xD} {sp:Sp} {E:XK} {x m:xD} {p pos apos:LM} {e o:JF} {es:7 JF} {ta:TE} {t:TA}
def jY (c:fU X.prog X.w X.K X.mg X.base CX k x ps sp) (hr:bv k X.A) (h:Gl X x) (b:PA X (e::es) t) (l:e7 CX X E) (a:(x==("__debug__":xD))=5:=by decide)
  (he:starEach (e::es) X.env=(5,eval e X.env)::starEach es X.env:=by rfl) (hpl:(backTo pos (starEach es X.env)).any (·.1)=5:=by rfl):PE X (.Call (.Name x p) (e::es) [] pos) (tJ sp [] E t):=by
 let(f,fd,F,j,i,d):=c.ex;show Cr F hr h j i d .nil l b a he hpl
def pi (c:fU X.prog X.w X.K X.mg X.base bu k x ps sp) (hr:bv k X.A) (d:Gl X x) (b:PA X (e::es) t) (a:(x==("__debug__":xD))=5:=by decide)
  (he:starEach (e::es) X.env=(5,eval e X.env)::starEach es X.env:=by rfl) (hpl:(backTo pos (starEach es X.env)).any (·.1)=5:=by rfl):PE X (.Call (.Name x p) (e::es) [] pos) (tJ sp [] E0 t):=
 jY c hr d b wz a he hpl
def Ax(i:PE X o ta)(c:cM X.prog X.w X.K X.mg X.base bu k C m ps sp)(hr:bv k X.A)(d:PA X (e::es) t)
  (a:starEach (e::es) X.env=(5,eval e X.env)::starEach es X.env:=by rfl) (hpl:(backTo pos (starEach es X.env)).any (·.1)=5:=by rfl)
  (ht:eval (.Call (.Attribute o m apos) (e::es) [] pos) X.env=(do
   let b <- eval o X.env
   standAt apos.atName
   let (f,first) <- holding [b] (getMethod b m pl)
   Nz pos f first (backTo pos (starEach (e::es) X.env)) (Mx pos (Lb [] X.env))):=by rfl):
  PE X (.Call (.Attribute o m apos) (e::es) [] pos) (tK C m sp [] E0 ta t):=by
 let(f,fd,F,j,h):=c.ex;show wn (pl:=pl) i c.cl j F hr h .nil wz d a hpl ht
def yP(d:PE X o ta)(c:cM X.prog X.w X.K X.mg X.base bu k C m ps sp)(hr:bv k X.A)
  (i:eval (.Call (.Attribute o m apos) [] [] pos) X.env=(do
   let a <- eval o X.env
   standAt apos.atName
   let (f,first) <- holding [a] (getMethod a m pl)
   Nz pos f first (backTo pos (starEach [] X.env)) (Mx pos (Lb [] X.env))):=by rfl):
  PE X (.Call (.Attribute o m apos) [] [] pos) (tK C m sp [] E0 ta n9):=by
 let(f,fd,F,h,b):=c.ex;show Ag (pl:=pl) d c.cl h F hr b .nil wz i
def tR (c:lQ X.prog X.w X.K X.mg X.base bu k x C ps sp) (hr:bv (k+1) X.A) (h:Gl X x) (b:PA X (e::es) t) (a:(x==("__debug__":xD))=5:=by decide)
  (he:starEach (e::es) X.env=(5,eval e X.env)::starEach es X.env:=by rfl) (hpl:(backTo pos (starEach es X.env)).any (·.1)=5:=by rfl):
  PE X (.Call (.Name x p) (e::es) [] pos) (D6 C sp [] E0 t):=by
 let(f,fd,F,i,d):=c.ex;show Cs i F hr h c.at_ d .nil wz b a he hpl
end
def pj (a:Gl X x) (b:X.mg x=8) (d:Js x=!.type n) (c:x ≠ "__name__":=by decide) (hd:(x==("__debug__":xD))=5:=by decide):PE X (.Name x pos) (tC (.ty n)):=
 Cf (v:=.ty n) a b d 9 c hd
def wJ (b:Gl X x) (c:X.mg x=!.ref C) (a:(x==("__debug__":xD))=5:=by decide):PE X (.Name x pos) (tC (.ref C)):=Ce (v:=.ref C) b c 9 a
def aj(h:H b=!u)(c:H a=8):upd H a o b=!u:=by rw[af (ae h c)];show h
def ag.upd(h:H a=8):ag H (L2.upd H a o):=λb u e=>aj e h
def ag.tupq{K:PySem.W.Frag}{H b:Hp}{a:mu}{xs:7 V}(e:ag H b)(h:b9 K H a xs):b9 K b a xs:=by
 let(h||(o,h))||h:=h
 ·show .inl (.inl (e _ _ h))
 ·show .inl (.inr {o,e _ _ h})
 ·show .inr h
section
variable {X:Cx} {K:PySem.W.Frag} {a b c e o l value:JF} {es:7 JF} {ta tb te tl tv to:TE} {t:TA} {f name:xD} {pos pos' p apos cpos tpos:LM} {T id:String} {r:V->7 V->Hp->VK->Prop}
def lR(d:X.K=K):d4 X (KP .Add) (wH K):=by subst d;show CF
def Ay(d:X.K=K)(h:X.A.units+64<NQ):d4 X (JX .Eq) (Fh K):=by subst d;show Fi h
def vj(d:X.K=K)(h:X.A.units+64<NQ):d4 X (JX .NotEq) (GX K):=by subst d;show Fj h
def qJ(d:X.K=K):d4 X (JX .NotIn) (Ir K 6):=by subst d;show rQ
def Fl(d:X.K=K):B8 X (nJ K):=by subst d;show GY
def Iv(d:X.K=K):Ip X (An K):=by subst d;show Cy
def CH(d:X.K=K)(i:PE X e ta)(h:LA e f X.env (eval e X.env)=eval e X.env):PE X (.Attribute e f pos) (ET K ta f):=by subst d;show EV i h
def wK(d:X.K=K)(h:PE X o ta)(i:PE X value tv)(hs:Mm value (!.Attribute o f pos') pos.line X.env=pure 5):PS X (.Assign [.Attribute o f pos'] value pos) (GL K ta tv f):=by subst d;show EW h i hs
def lg(h:X.K=K)(i:PE X o ta)(j:PE X value tv)(d:EU X n q):PS X (.AugAssign (.Attribute o f tpos) n value pos) (wm K ta tv q f):=by subst h;show yF i j d
def i9(d:X.K=K)(h:PE X l tl):PI X i l (zX K tl):=by subst d;show Cj h
def Az (d:X.K=K) (i:Gl X "enumerate") (j:X.mg "enumerate"=8) (h:PA X [l] t) (hs:starEach [l] X.env=[(5,eval l X.env)]:=by rfl):PI X (.Tuple es k tpos) (.Call (.Name "enumerate" p) [l] [] pos) (Eb K t):=by subst d;show CC i j h hs
def CI (d:X.K=K) (i:Gl X "zip") (j:X.mg "zip"=8) (h:PA X [l,m] t) (hs:starEach [l,m] X.env=[(5,eval l X.env),(5,eval m X.env)]:=by rfl) (hs2:starEach [m] X.env=[(5,eval m X.env)]:=by rfl):
  PI X (.Tuple es k tpos) (.Call (.Name "zip" p) [l,m] [] pos) (GW K t):=by subst d;show Fc i j h hs hs2
def rY(d:X.K=K)(hc:X.calm=6)(h:Gw X es ts)(i:(Mh es X.env).length=n:=by rfl)(hst:(Mh es X.env).findIdx? (·.1)=8:=by rfl):PG X (.Tuple es k pos) (EE K n ts):=by
 subst d;show EF hc h i hst
def CJ (j:X.K=K) (s:PQ T) (h:Slot T name id) (i:typeOf (.builtin id)=pure (.type "method_descriptor")) (n:Al X id r) (q:PE X o to)
  (d:LA o name X.env (eval o X.env)=eval o X.env:=by rfl) (hline:(apos.endLine==cpos.line)=6:=by rfl):PE X (.Call (.Attribute o name apos) [] [] cpos) (GP K T r to):=by subst j;show E5 s h i n q d hline
inductive G0(K:PySem.W.Frag)(xs:7 V)(H:Hp)(Q:VK):Prop
 | mk (x:_) (n:_):xs=[x]->GJ K x H n->Q (.int n) H->G0 K xs H Q
def mR(i:X.K=K):bq X (.builtin "len") (G0 K):=by
 subst i;intro d s σ H xs us Q I r h;let(x,n,j,z2,q):=h;show Ac d s σ H xs us Q I r ⟨x,n,j,z2,q⟩
inductive AF(K:PySem.W.Frag)(xs:7 V)(H:Hp)(Q:VK):Prop
 | mk (p:_) (ys:_):xs=[.ref p]->(ak K H p ys\/b9 K H p ys)->(∀l,H l=8->Q (.ref l) (upd H l (.lst ys)))->AF K xs H Q
def vk(i:X.K=K):bq X (.type "list") (AF K):=by
 subst i;intro d s σ H xs us Q I r h;let(j,n,q,u,v):=h;show lP d s σ H xs us Q I r ⟨j,n,q,u,v⟩
inductive Ed(K:PySem.W.Frag)(xs:7 V)(H:Hp)(Q:VK):Prop
 | mk (p:mu) (bs:7 Bool):xs=[.ref p]->ak K H p (bs.map V.bl)->Q (.bl (bs.any _root_.id)) H->Ed K xs H Q
def yQ(i:X.K=K)(hc:X.calm=6):bq X (.builtin "any") (Ed K):=by
 subst i;intro d s σ H xs us Q I r h;let(j,n,q,u,v):=h;show (yM hc) d s σ H xs us Q I r ⟨j,n,q,u,v⟩
inductive Ee(K:PySem.W.Frag)(xs:7 V)(H:Hp)(Q:VK):Prop
 | mk (p:mu) (bs:7 Bool):xs=[.ref p]->ak K H p (bs.map V.bl)->Q (.bl (bs.all _root_.id)) H->Ee K xs H Q
def yR(i:X.K=K)(hc:X.calm=6):bq X (.builtin "all") (Ee K):=by
 subst i;intro d s σ H xs us Q I r h;let(j,n,q,u,v):=h;show (yN hc) d s σ H xs us Q I r ⟨j,n,q,u,v⟩
inductive Ef(K:PySem.W.Frag)(xs:7 V)(H:Hp)(Q:VK):Prop
 | mk (p:mu) (ns:7 3):xs=[.ref p]->ak K H p (ns.map V.int)->Q (.int ns.sum) H->Ef K xs H Q
def yS(i:X.K=K)(hc:X.calm=6):bq X (.builtin "sum") (Ef K):=by
 subst i;intro d s σ H xs us Q I r h;let(j,n,q,u,v):=h;show (yO hc) d s σ H xs us Q I r ⟨j,n,q,u,v⟩
inductive lS(K:PySem.W.Frag)(xs:7 V)(H:Hp)(Q:VK):Prop
 | mk (x:_) (c:_) (cv:_) (t:_) (b:_):xs=[x,c]->aE c cv->(∀u,aE c u->u=cv)->kd K H x t->PL K t cv=!b->Q (.bl b) H->lS K xs H Q
def mS(j:X.K=K):bq X (.builtin "isinstance") (lS K):=by
 subst j;intro d s σ H xs us Q I r h;let(n,q,u,v,x,y,z,A,B,C,i):=h;show tQ d s σ H xs us Q I r ⟨n,q,u,v,x,y,z,A,B,C,i⟩
def CK(i:X.K=K)(j:PE X a ta)(n:∀d,isTrue a X.env d=(do let v <- d;standAt a.pos;holding [v] (truthy v))):PT X a (λσ H Q=>ta σ H λx h=>Io K x h Q):=by subst i;show Ab j n
def AG(d:X.K=K):Al X "str.join" (Aw K):=by subst d;show CD
end
section
variable {X:Cx} {K:PySem.W.Frag} {o e:JF} {es:7 JF} {to:TE} {t:TA} {name:xD} {apos cpos:LM} {T id:String} {r:V->7 V->Hp->VK->Prop}
def rZ (d:X.K=K) (j:PQ T) (b:Slot T name id) (c:typeOf (.builtin id)=pure (.type "method_descriptor")) (h:Al X id r) (i:PE X o to) (f:PA X (e::es) t)
  (a:LA o name X.env (eval o X.env)=eval o X.env:=by rfl)
  (hfew:((backTo cpos (starEach (e::es) X.env)).all (λx=>(not x.1))&&(Mx cpos (Lb [] X.env)).all (λx=>x.1.isSome)
   && decide ((e::es).length+([]:7 Keyword).length+(if ([]:7 Keyword).isEmpty then 0 else 1)<30))=6:=by rfl)
  (hline:(apos.endLine==cpos.line)=6:=by rfl) (hs:starEach (e::es) X.env=(5,eval e X.env)::starEach es X.env:=by rfl) (hplain:(backTo cpos (starEach es X.env)).any (·.1)=5:=by rfl):
  PE X (.Call (.Attribute o name apos) (e::es) [] cpos) (IM K T r to t):=by subst d;show GQ j b c h i f a hfew hline hs hplain
end
def cJ(xs:7 V)(k:4):dm xs (!(k:3)) 8=xs.drop k:=by
 unfold dm;rw[HT.sIx_nat,HT.sIx_none]
 by_cases h:k<=xs.length
 ·rw[Mp h,JS (by simp)]
 ·rw[LO (),Lg (oN _),Lg (),List.take_nil]
def lU(xs:7 V)(k:4):dm xs 8 (!(k:3))=xs.take k:=by
 unfold dm;rw[HT.sIx_nat,HT.sIx_none];simp only[Qt,Nat.sub_zero]
 by_cases h:k<=xs.length
 ·rw[Mp h]
 ·rw[LO (),JS (oN _),JS ()]
def adj(ns:7 3):7 Bool:=(ns.zip (ns.drop 1)).map λp=>decide (p.1=p.2)
def wL(ns:7 3):(adj ns).length=min ns.length (ns.length-1):=by
 unfold adj;rw[lj,Mi,JM]
def AH(a b:3)(r:7 3):adj (a::b::r)=decide (a=b)::adj (b::r):=by
 unfold adj;simp
def CL{ns:7 3}{i:4}{x y:3}(a:ns[i]?=!x)(b:(ns.drop 1)[i]?=!y):(adj ns)[i]?=!(decide (x=y)):=by
 unfold adj;rw[r6,K2 (z:=(x,y)) |>.mpr ⟨a,b⟩];rfl
def AI{ns:7 3}{i:4}{x y:3}(a:ns[i]?=!x)(b:(ns.drop 1)[i]?=!y):(adj ns).take (i+1)=(adj ns).take i++[decide (x=y)]:=by
 rw[MC,CL a b];rfl
def qK:∀{ns:7 3},ns.Pairwise (· <= ·)->((adj ns).any id=(not (decide ns.Nodup)))
 | [],_=>by simp[adj]
 | [a],_=>by simp[adj]
 | a::b::r,h=>by
  rw[JJ]at h;have i:=qK h.2;rw[AH,NB,i];have d:a<=b:=h.1 b vr
  by_cases e:a=b
  ·subst e
   have:¬ (a::a::r).Nodup:=λz=>(Ls.mp z).1 vr;simp[this]
  ·have j:a∉b::r:=λf=>by
    let z||z:=Jb.mp f
    ·show e z
    ·have l:=(JJ.mp h.2).1 a z
     show e ()
   have:(a::b::r).Nodup↔(b::r).Nodup:=by rw[Ls];show {λz=>z.2,λz=>⟨j,z⟩}
   by_cases c:(b::r).Nodup
   ·simp[e,this.mpr c,c]
   ·simp[e,this,c]
def aK{a b:Type}{f:a->b}{l:7 a}{i:4}{y:b}(h:(l.map f)[i]?=!y):∃x,l[i]?=!x/\y=f x:=by
 rw[r6]at h;cases e:l[i]? with
 | none=>rw[e]at h;cases h
 | some x=>rw[e]at h;show {x,9,(vb h).symm}
def aP{a:Type}{l:7 a}{i:4}{x:a}(h:l[i]?=!x):l.take (i+1)=l.take i++[x]:=by
 rw[MC,h];rfl
def CM(a b:3):decide (V.int a=V.int b)=decide (a=b):=decide_eq_decide.mpr {λh=>V.int.inj h,λh=>h▸9}
def Fm(a b:xD):decide (V.str a=V.str b)=decide (a=b):=decide_eq_decide.mpr {λh=>V.str.inj h,λh=>h▸9}
end L2
namespace Xc
open PySem
section
variable {M:Qb} {A:Jq} {E:n5->pe->Prop} {s:pe}
structure Exc(h:Jz)(e:mu)(cls:n5)(od:Option mu)(sl:Array (Option n5))(vs:Array n5):Prop where
 obj:h.get? e=some { cls:=cls,dict:=od,data:=.fields vs,slots:=sl }
 big:2<vs.size
structure Tb(h:Jz)(T:mu)(fl:n5):Prop where
 ex:∃oT ts,h.get? T=!oT/\oT.data=.fields ts/\ts[03]?=!fl
def map_at{h:Jz}{a:mu}{o:Ky}{vs:Array n5}{i:4}{x:n5}(e:h.get? a=!o)(b:o.data=.fields vs):
  (h.update a (NY (·.setIfInBounds i x))).get? a=some { o with data:=.fields (vs.setIfInBounds i x) }:=by
 rw[KA _ e (Obj.isFreed_of_fields (Obj.data_mapFields b _))];let(c,d,f,sl):=o;subst b;rfl
def mT{base:Jz}{env:N5}{outer:7 N5}{L e:mu}{cls:n5}{od:Option mu}{sl:Array (Option n5)}{vs:Array n5}{c:n5}{had:Bool}{Q:Unit->pe->Prop}
  (j:A.frames=!(env::outer)) (x:s.heap.FunFrames base (env::outer)) (H:env.frame=!L) (l:Exc s.heap e cls od sl vs)
  (h:∀h' i,(∀b o,b∉(env::outer).filterMap (·.frame)->b≠e->s.heap.get? b=!o->h'.get? b=!o)->(∀b o,b≠e->s.heap.get? b=!o->∃k,h'.get? b=some { o with slots:=k })->
   ↑s<=i->Exc h' e cls od sl (vs.setIfInBounds 1 (.ref i))->Tb h' i (rawInt L)->Q Jr { s with heap:=h' }):
  wpAny M A (do let a <- frameOf env;let pl <- entryPlaceOf L had;let b <- Pg c a .none (rawInt L) .none pl;setField (.ref e) 1 b) Q E s:=by
 have v:=l.obj;have n:e∉(env::outer).filterMap (·.frame):=λI=>by
  let(_,o,y,N):=x.mem I;rw[v]at y;cases y;show N vs 9
 show mi (wpAny_frameOf_fun j x H λg hs=>mi (wpAny_entryPlaceOf λpl f=>?_));unfold Pg newFields;show mi (Kq ?_ (f.sizeOk5 _ _ _ _ _));have r:g.get? e=some { cls:=cls,dict:=od,data:=.fields vs,slots:=sl }:=(hs.2.1 e n).trans v;generalize u:({ cls:=.type "traceback",dict:=8,data:=.fields ([c,Ja L,.none,rawInt L,.none]++(if pl.isEmpty then ra 06 Kp else pl)).toArray }:Ky)=p;have B:p.data=.fields ([c,Ja L,.none,rawInt L,.none]++(if pl.isEmpty then ra 06 Kp else pl)).toArray:=by rw[<- u]
 have t:=pu (h:=g) p r;have C:g.objs.size≠e:=Kg (xE r);show MD t 9 (LC l.big) (h _ g.objs.size (λb o D d q=>?_) (λb o d q=>?_) (Ot hs.1.symm) ⟨map_at t 9,by simpa using l.big⟩ {{p,_,?_,B,?_}})
 ·show (Jp _ _ (JP d)).trans (pu _ ((hs.2.1 b D).trans q))
 ·let(k,z):=hs.2.2 b o q
  show {k,(Jp _ _ (JP d)).trans (pu _ z)}
 ·show (Jp _ _ (JP C)).trans (y8 _ (by rw[<- u];rfl))
 ·let 9||(_,_,_,_,_,_,_,9):=f<;>simp
def note_step{base:Jz}{env:N5}{outer:7 N5}{L e:mu}{cls:n5}{od:Option mu}{sl:Array (Option n5)}{vs:Array n5}{Q:Unit->pe->Prop}
  (t:A.frames=!(env::outer)) (I:s.heap.FunFrames base (env::outer)) (C:env.frame=!L) (u:Exc s.heap e cls od sl vs)
  (O:vs[1]?=!.none\/∃T,vs[1]?=!.ref T/\T≠e/\Tb s.heap T .none)
  (h:∀h' d,(∀b o,b∉(env::outer).filterMap (·.frame)->b≠e->vs[1]?≠some (.ref b)->s.heap.get? b=!o->h'.get? b=!o)->
   (∀b o,b≠e->vs[1]?≠some (.ref b)->s.heap.get? b=!o->∃k,h'.get? b=some { o with slots:=k })->(∀b o,vs[1]?=!.ref b->s.heap.get? b=!o->∃U,h'.get? b=!U)->
   ↑s<=d->Exc h' e cls od sl (vs.setIfInBounds 1 (.ref d))->Tb h' d (rawInt L)->Q Jr { s with heap:=h' }):
  wpAny M A (M4 (.ref e) env) Q E s:=by
 unfold M4;simp only[C];let l||(T,l,p,(oT,ts,v,a,H)):=O
 ·show mi (JY u.obj 9 l ?_)
  rw[if_neg (by decide)];show mT t I C u λh' d k1 k2 k3 D k5=>h h' d (λb o y f _=>k1 b o y f) (λb o f _=>k2 b o f) (λb o z=>by rw[l]at z;cases z) k3 D k5
 ·show mi (JY u.obj 9 l ?_)
  rw[if_pos (show (Ja T != Kp)=6 from by simp)];show mi (JY v a H ?_);rw[if_neg (show ¬ ((Kp==rawInt L)=6) from by simp[rawInt])];show mi (MD v a (Kr.mp H).1 ?_);have c:∀b,b≠T->(s.heap.update T (NY (·.setIfInBounds 03 Kp))).get? b=s.heap.get? b:=λb r=>Jp _ _ (JP r);have B:=map_at (i:=03) (x:=Kp) v a;show mT (base:=base) (had:=6) t (I.of_keeps λb o r N=>?_) C {(c e (JP p)).trans u.obj,u.big} λh' d k1 k2 k3 D k5=>h h' d (λb o y f n q=>?_) (λb o f n q=>?_) (λb o n q=>?_) (by simpa using k3) D k5
  ·have j:b≠T:=λz=>by
    rw[z,v]at r;cases r;show N ts a
   show {o,(c b j).trans r,9}
  ·have j:b≠T:=λz=>n (by rw[z];show l)
   show k1 b o y f ((c b j).trans q)
  ·have j:b≠T:=λz=>n (by rw[z];show l)
   show k2 b o f ((c b j).trans q)
  ·have j:b=T:=by
    rw[l]at n;cases n;rfl
   subst j;let(k,z):=k2 b _ p B;show {_,z}
def land{e T:mu}{cls:n5}{od:Option mu}{sl:Array (Option n5)}{vs:Array n5}{f:n5}{Q:Unit->pe->Prop}(r:Exc s.heap e cls od sl vs)(i:vs[1]?=!.ref T)(l:T≠e)(p:Tb s.heap T f)
  (h:∀h',(∀b o,b≠T->s.heap.get? b=!o->h'.get? b=!o)->Tb h' T .none->Q Jr { s with heap:=h' }):wpAny M A (N8 (.ref e) 8) Q E s:=by
 let(t,ts,c,a,j):=p.ex;have d:03<ts.size:=(Kr.mp j).1;unfold N8;show mi (JY r.obj 9 i ?_);rw[if_pos (show (Ja T != Kp)=6 from by simp)];show MD c a d (h _ (λb o n q=>(Jp _ _ (JP n)).trans q) {{_,_,map_at c a,9,?_}});simp[d]
end
section
variable {prog:IY} {w:Je} {A:Jq} {E:n5->pe->Prop} {h:Jz} {g:Array Ms} {d:Drawn} {t:4} {os:Op}
variable {nm q:xD} {C N:mu} {bs bm bmB:7 n5} {hdct:Bool} {sn:7 xD} {sub:7 n5} {ab:Bool} {col:Option Bool} {dd:Option mu} {k0 k1 k2 k3 k5:Option n5} {B newId initId:String}
def yT(F:Oy B newId initId bmB)(T:Qi h bmB bm){rest:7 n5}
  (i:h.get? C=!KR nm q C N bs bm hdct sn sub ab col dd k0 k1 k2 k3 k5 newId) (hn:h.Ns N I) (hi:I "__init__"=!.ref H) (v:h.get? H=!oI) (y:oI.cls=.type "function")
  (hq:∀h' e,NF h h' e (.ref C) rest->h.objs.size<=e->
   wpAny (model prog w) A (call (.ref H) (.ref e::rest)) (λr s'=>r=.none/\Q (.done (.ret (.ref e))) s') E ⟨h',g,d,t,os⟩) (f:rest.length<=sizeLine):
  wpAny (model prog w) A (Nb.«type.__call__» {.ref C::rest,[]}) Q E ⟨h,g,d,t,os⟩:=by
 repeat (first | with_reducible show Ks i ?_ | with_reducible show wpAny_madeBy_exc i ?_ | wp_step)
 show NO (Mj _ F.quiet) (wpAny_check_new_subT F T i (codeAny_exc_new_subT F T i ?_ f));show wpAny _ _ _ _ _ _;generalize c:h.push { cls:=.type "tuple",data:=.seq rest.toArray }=p;generalize s:({ cls:=.ref C,data:=.fields #[.ref h.objs.size,.none,.none,.none,.bool 5,.none] }:Ky)=l;have z1:p.objs.size=h.objs.size+1:=by rw[<- c,Jl]
 have n:∀b o,h.get? b=!o->(p.push l).get? b=!o:=λb o e=>pu _ (by rw[<- c];show pu _ e);have a:(p.push l).get? (h.objs.size+1)=!l:=by rw[<- z1];show y8 _ (by rw[<- s];rfl)
 have D:l.cls=.ref C:=by rw[<- s]
 have u:(Ja C::bm).contains (.ref C)=6:=by simp
 have j:=n _ _ i;have z:(p.push l).Ns N I:=let ⟨o,O,M,e,r⟩:=hn;{o,O,M,n _ _ e,r};unfold PV
 repeat (first | (with_reducible show Ks a ?_;rw[D]) | (with_reducible show Nm j ?_;rw[u]) | wp_step)
 show wpAny _ _ (NA (.ref C) _) _ _ _;show wpAny_typeLookup_tail j z (T.keeps n) F.mroIs F.init.lookup ?_;rw[hi];show Ki (mi ?_);unfold bindSpecial;show mi (wpAny_typeOf (T := "function") {_,n _ _ v,y} ?_);rw[if_pos (by decide)];show ri (mi (Jg (hq _ (h.objs.size+1) ⟨n,Jy (Lc _),h.objs.size,by rw[a,<- s],Jy (oN _),?_⟩ (Lc _)) (λr s' hr=>?_) λ_ _ x=>x))
 ·rw[<- c]
  show pu _ (y8 _ 9)
 ·let(9,U):=hr
  wp_walk
  show U
def call_init(F:Oy B newId initId bmB)(T:Qi h bmB bm){rest:7 n5}
  (b:h.get? C=!KR nm q C N bs bm hdct sn sub ab col dd k0 k1 k2 k3 k5 newId) (l:h.Ns N o) (hi:o "__init__"=!.ref i) (c:h.get? i=!p) (f:p.cls=.type "function")
  (n:∀h' e,NF h h' e (.ref C) rest->h.objs.size<=e->
   wpAny (model prog w) (A.under (.builtin "type.__call__" {.ref C::rest,[]})) (call (.ref i) (.ref e::rest)) (λr s'=>r=.none/\Q (.ref e) s') E ⟨h',g,d,t,os⟩) (a:rest.length<=sizeLine):
  wpAny (model prog w) A (call (.ref C) rest) Q E ⟨h,g,d,t,os⟩:=by
 have s:=tc_lookup;have u:=tc_bind (.ref C);have v:(⟨h,g,d,t,os⟩:pe).TypeIs (.ref C) "type":={_,b,9};show Lr (codeAny_of_tree (?_:wpAny _ _ (callAny (.ref C) _) _ _ _))
 repeat (any_goals (first | assumption | with_reducible show Ks b ?_ | wp_step))
 show {9,N9 (Mj _ (by decide +kernel)) entry_typeCall (NP b (yT F T b l hi c f (λh' e j hs=>?_) a))};show n h' e j hs
end
section
variable {M:Qb} {A:Jq} {E:n5->pe->Prop} {s:pe} {env:N5}
variable {nm q:xD} {C N:mu} {bs bm:7 n5} {hdct:Bool} {sn:7 xD} {sub:7 n5} {ab:Bool} {col:Option Bool} {dd:Option mu} {k0 k1 k2 k3 k5:Option n5} {newId:String}
def raise_made (a:bm.contains (.type "BaseException")=6) (n:A.handled=8)
  (h:wpAny M A x (λv b=>∃e od sl vs,v=.ref e/\b.heap.get? C=!KR nm q C N bs bm hdct sn sub ab col dd k0 k1 k2 k3 k5 newId/\Exc b.heap e (.ref C) od sl vs/\vs[1]?=!.none/\E (.ref e) b) E s):
  wpAny M A (Qu env (!x) 8) Q E s:=by
 have c:(Ja C::bm).contains (.type "BaseException")=6:=by rw[PY,a,Bool.or_true]
 unfold Qu;show mi (Jg h (λv b j=>?_) λ_ _ x=>x);let(e,od,sl,vs,9,f,(i,p),o,l):=j;let(hp,g,d,r,os):=b
 repeat (first | with_reducible show JY i 9 o ?_ | with_reducible show Ks i ?_ | with_reducible show Ks f ?_ | (with_reducible show Nm f ?_;rw[c]) | wp_step)
 show wpAny_raiseNew_none n l
end
end Xc
namespace L2
open PySem PySem.Spec PyProof.Rows
def lV(P:IY)(w:Je):oF:=λouter H s E e s'=>∃(ea T:mu) (cls:n5) (od:Option mu) (sl:Array (Option n5)) (vs:Array n5) (a:Hp),
 e=.ref ea/\s'.os=s.os/\AllBare s'.gens/\Un (oE outer) [] H a s.heap s'.heap/\iP P w a s'.heap/\a ea=8/\a T=8/\↑s<=ea/\↑s<=T /\
 Xc.Exc s'.heap ea cls od sl vs/\vs[1]?=!.ref T/\T≠ea/\vs[2]?=!.none/\Xc.Tb s'.heap T .none/\E cls od a
structure AJ(X:Cx)(H:Hp)(s:pe)(ea:mu)(cls:n5)(od:Option mu)(sl:Array (Option n5))(vs:Array n5):Prop where
 exc:Xc.Exc s.heap ea cls od sl vs
 h2:vs[2]?=!.none
 free:H ea=8
 new:↑X.s₀<=ea
 nofr:∀x c,X.env.cells.lookup x=!c->c≠ea
 tb:vs[1]?=!.none\/∃T,vs[1]?=!.ref T/\T≠ea/\Xc.Tb s.heap T .none/\H T=8/\↑X.s₀<=T
section
variable {P:IY} {w:Je} {K:PySem.W.Frag} {mg:xD->Option n5} {base:Jz} {N:7 xD} {qual:xD} {scope:JT} {f:mu} {cd:n5} {A:Jq} {outer:7 N5} {s:pe} {H:Hp} {E:XK}
def lW(ok:iP P w a h)(k:∀b o u,a b=!u->h.get? b=!o->h'.get? b=!o):iP P w a h':=λb u e=>
 (ok b u e).stay (λc v hc q=>by
  let 9||hc:=hc
  ·show k c v _ e q
  ·show k c v _ hc q) (λ_ q=>q) (λ_ _ q=>q) λ_ _ _ q=>q
def wM
  (I:ao (lN (lV P w) P w K mg base N qual scope f cd A outer s H E) as σ O s') (F:AJ (lN (lV P w) P w K mg base N qual scope f cd A outer s H E) O s' ea cls od sl vs) (q:E cls od O):
  (lN (lV P w) P w K mg base N qual scope f cd A outer s H E).xe (.ref ea) s':=by
 have ac:s'.heap.FunFrames base (envOfC qual scope ↑s f cd::outer):=I.stack;have ab:(A.deeper (envOfC qual scope ↑s f cd)).frames=!(envOfC qual scope ↑s f cd::outer):=I.ok.frames;have t:∀b∈(envOfC qual scope ↑s f cd::outer).filterMap (·.frame),O b=8:=I.stkFree;have sub:∀b∈(envOfC qual scope ↑s f cd::outer).filterMap (·.frame),b∈↑s::oE outer:=I.stkSub;have bs:=I.base;have j:s.heap.get? ea=8:=Jy F.new;show wpAny (model P w) (A.deeper (envOfC qual scope ↑s f cd)) (leaving (envOfC qual scope ↑s f cd) (.ref ea)) (λ_ r=>lV P w outer H s E (.ref ea) r) (λe' r=>lV P w outer H s E e' r) s'
 unfold leaving;show mi (Xc.note_step ab ac 9 F.exc (F.tb.imp id λ⟨T,a,b,c,_⟩=>⟨T,a,b,c⟩) λh1 x k1 k2 k3 U k5 k6=>?_);have Q:(vs.setIfInBounds 1 (.ref x))[1]?=!.ref x:=by simp[LC F.exc.big]
 have an:(vs.setIfInBounds 1 (.ref x))[2]?=!.none:=by rw[Ka (by decide)];show F.h2
 have p:x≠ea:=Kg (ti (xE F.exc.obj) U);show Xc.land k5 Q p k6 λh2 B g2=>?_;have l:∀b o,s'.heap.get? b=!o->b≠x:=λb o e=>vu (ti (xE e) U);have i:∀b,vs[1]?=!.ref b->O b=8/\s.heap.get? b=8:=λb e=>by
  let z||(T,a,_,_,d,n):=F.tb
  ·rw[z]at e;cases e
  ·rw[a]at e;cases e;show {d,Jy n}
 have kept:∀b o,s.heap.get? b=!o->s'.heap.get? b=!o->b∉oE outer->h2.get? b=!o:=λb o h e C=>by
  show B b o (l b o e) (k1 b o (λz=>?_) (λz=>?_) (λz=>?_) e)
  ·let y||y:=Jb.mp (sub b z)
   ·rw[y]at h
    show absurd (xE h) (Kw _)
   ·show C y
  ·rw[z,j]at h;cases h
  ·rw[(i b z).2]at h;cases h
 have slots:∀b o,s.heap.get? b=!o->s'.heap.get? b=!o->∃k,h2.get? b=some { o with slots:=k }:=λb o h e=>by
  let(k,z):=k2 b o (λz=>by rw[z,j]at h;cases h) (λz=>by rw[(i b z).2]at h;cases h) e;show {k,B b _ (l b o e) z}
 have v:∀b o,s.heap.get? b=!o->∀M,s'.heap.get? b=!M->∃ap,h2.get? b=!ap:=λb o h M e=>by
  let(k,z):=k2 b M (λz=>by rw[z,j]at h;cases h) (λz=>by rw[(i b z).2]at h;cases h) e;show {_,B b _ (l b M e) z}
 show ⟨ea,x,cls,od,sl,_,O,9,I.os,I.bare,⟨λb o e n C hx=>?_,λb o e n C hx=>?_,λb o e n hx=>bs.free b o e n (by show b∉([]:7 mu);simp),λb o e hx=>?_,bs.tups,bs.frzs,bs.tbls⟩,?_,F.free,I.hok.fresh U,F.new,?_,{B _ _ p.symm k5.obj,k5.big},Q,p,an,g2,q⟩
 ·show kept b o e (bs.keep b o e n C (by show b∉([]:7 mu);simp)) C
 ·let(k0,h):=bs.slot b o e n C (by show b∉([]:7 mu);simp)
  let(k,z):=k2 b _ (λz=>by rw[z,j]at e;cases e) (λz=>by rw[(i b z).2]at e;cases e) h;show {k,B b _ (l b _ h) z}
 ·let(M,e1):=bs.there b o e (by show b∉([]:7 mu);simp)
  show v b o e M e1
 ·show lW I.hok λb o u D e=>B b o (l b o e) (k1 b o (λz=>by rw[t b z]at D;cases D) (λz=>by rw[z,F.free]at D;cases D) (λz=>by rw[(i b z).1]at D;cases D) e)
 ·show xM I.sz U
def wN(h:∀c d H,j c d H->E c d H):e7 (lV P w) (lN (lV P w) P w K mg base N qual scope f cd A outer s H E) j:=by
 intro i σ H1 s1 e s' I u;let(ea,T,cls,od,sl,vs,H',9,r,p,t,a,C,D,b,B,n,Q,M,U,O,q):=u;have l:=I.call' (ch:=[]) r t a p (λ_ z=>nomatch z);show wM l {n,U,C,xM I.sz b,λx c e z=>?_,.inr {T,Q,M,O,D,xM I.sz B}} (h _ _ _ q);let(v,o,y,_):=I.cell x c e;rw[z]at y;show absurd (xE y) (PZ.mpr b)
end
def r9(X:Cx)(E:XK):Prop:=∀(a:7 (mu×Ky)) (σ:St) (H:Hp) (s:pe) (ea:mu) (cls:n5) (od:Option mu) (sl:Array (Option n5)) (vs:Array n5),ao X a σ H s->AJ X H s ea cls od sl vs->E cls od H->X.xe (.ref ea) s
def eC{P:IY}{w:Je}{K:PySem.W.Frag}{mg:xD->Option n5}{base:Jz}{N:7 xD}{a:xD}{scope:JT}{f:mu}{b:n5}{A:Jq}{outer:7 N5}{s:pe}{H:Hp}{E:XK}:
  r9 (lN (lV P w) P w K mg base N a scope f b A outer s H E) E:=λ_ _ _ _ _ _ _ _ _ I F q=>wM I F q
def qe.okE{P:IY}{w:Je}{K:PySem.W.Frag}{mg:xD->Option n5}{base:Jz}{x a:xD}{st:Jt}{f:mu}{fd:Kz}{N ps:7 xD}{k:4}{sp:Sp}(F:qe K x a st f fd)(S:al N ps (ah st))(len:∀vs H Q E,sp vs H Q E->vs.length=ps.length)
  (b:∀(cdv:n5) (A:Jq) (outer:7 N5) (s:pe) (H:Hp) (vs:7 V) (Q:VK) (E:XK),bv k (A.deeper (envOfC a (ah st) ↑s f cdv))->sp vs H Q E->
   ∃t,sX (lN (lV P w) P w K mg base N a (ah st) f cdv A outer s H E) (bK st) t/\t { nx:=λ_ j=>Q .non j,rt:=Q } (start N vs) H):cQ P w K mg base (lV P w) (k+1) f fd ps sp:=by
 let(y,od,kV,n,z,v,cdv,ct,u,9,q,e):=F.ex;show Ai q e S len λA outer s H vs Q E hr i=>b cdv A outer s H vs Q E hr i
end L2
namespace Xc
open PySem PySem.W PySem.Calls PyProof.Rows Builtin Builtin.ObjectAttr
def pk{l:7 n5}(h:iR l=6)(h':∀a r,l≠.ref a::r):l=[.type "ValueError",.type "Exception",.type "BaseException",.type "object"]:=by
 unfold iR at h
 split at h
 ·show absurd 9 (h' _ _)
 ·show beq_iff_eq.mp h
def yU(a:n5):∀{l:7 n5},iR l=6->refuseLoop a "__setattr__" l=pure Jr
 | l,e=>by
  induction l with
  | nil=>cases pk e (by simp)
  | cons v r b=>
   cases v with
   | ref c=>rw[refuseLoop_ref];show b (by rw[iR]at e;show e)
   | _=>rw[pk e (by simp)];show PySem.F.store_ValueError.passes a
def Fn (n:String) (a:([.type "ValueError",.type "Exception",.type "BaseException",.type "object"]:7 n5).contains (.type n)=6):∀{l:7 n5},iR l=6->l.contains (.type n)=6
 | l,e=>by
  induction l with
  | nil=>cases pk e (by simp)
  | cons v r b=>
   cases v with
   | ref c=>rw[PY,b (by rw[iR]at e;show e),Bool.or_true]
   | _=>rw[pk e (by simp)];show a
section
variable {prog:IY} {w:Je} {A:Jq} {E:n5->pe->Prop} {s:pe} {K:Frag} {x C:mu} {ox:Ky} {od:Option Ky} {name:xD}
def XC.has (c:XC K C) {n:String} (e:([.type "ValueError",.type "Exception",.type "BaseException",.type "object"]:7 n5).contains (.type n)=6):mroIn K C (.type n)=!6:=by
 let(b,hc,a):=any_some c.mro;have i:b.mro.isEmpty=5:=by cases q:b.mro with | nil=>rw[q]at a;cases pk a (by simp) | cons _ _=>rfl
 unfold mroIn;rw[hc,Option.bind_some,if_neg (by rw[i];decide),Fn n e a]
def set_first{v:n5}{Q:Unit->pe->Prop}{sl:Array (Option n5)}{vs:Array n5}(c:XC K C)(X:K.In s.heap)(p:s.heap.get? x=some {.ref C,8,.fields vs,sl})(ht:takerIn K C name=!8)
  (h:∀h' u tk,h'.get? x=some {.ref C,!u,.fields vs,sl}->↑s<=u->h'.Ns1 u (λy=>if y=name then some v else 8)->(∀b o,b≠x->s.heap.get? b=!o->h'.get? b=!o)->Q Jr { s with heap:=h',toks:=tk }):
  wpAny (model prog w) A (setAttr (.ref x) name v) Q E s:=by
 have I:InstAt s.heap x {.ref C,8,.fields vs,sl} C 8:=⟨p,9,9,trivial⟩;let(cd,hc,ho):=any_some c.mro;have sub:Looks (model prog w) s.heap (PV (.ref x) (.type "object")) 6:=I.type.andThen (looks_mroIn X (c.has (by decide +kernel)));show set_plain X I c.sa ?_;have j:=PySem.F.store_object;show LG j.slot.plain j.entry (@check_slot (model prog w) _ _ { s with toks:=s.toks+1 } "object.__setattr__" "object" "__setattr__" (.ref x) [.str name s.toks,v] [] _ j.kind j.split sub (j.args _ _ _) ?_);let(i,ha,hr):=Mq.mp ht;have hm:Looks (model prog w) s.heap (mroOf (.ref C)) cd.mro:=(looks_clsIn X hc).andThen .now
 have U:Looks (model prog w) s.heap (storeTaker? i) 8:=by
  cases i with
  | none=>show .now
  | some a=>
   let(b,l,B):=Kf.mp hr;show (looks_takesIn X l).andThen ?_;cases b with
   | false=>show .now
   | true=>cases B
 rw[osa_eq,refuse_eq];show mi (mi (I.type.here (s:={ s with toks:=s.toks+1 }) (mi (hm.here (s:={ s with toks:=s.toks+1 }) ?_))));rw[yU _ ho];show ri (mi (I.type.here (s:={ s with toks:=s.toks+1 }) (mi ((looks_findIn X ha).here (s:={ s with toks:=s.toks+1 }) (mi (U.here (s:={ s with toks:=s.toks+1 }) ?_))))));let(ab,D,M):=any_some c.hd;let(hp,g,d,t,os):=s;dsimp only at p X I;show mi (ri (mi (mi (OW p (mi ((looks_clsIn X D).here (s:={hp,g,d,t+1,os}) ?_))))));rw[M]
 dsimp only;have f:(hp.push { cls:=.type "dict",data:=.dict #[] }).get? x=some {.ref C,8,.fields vs,sl}:=pu _ p;have q:x≠hp.objs.size:=vu (xE p);show mi (wpAny_alloc' ?_);show mi (wpAny_update' f ?_);show ri ?_;generalize z:((hp.push { cls:=.type "dict",data:=.dict #[] }).update x λo=>{ cls:=o.cls,dict:=!hp.objs.size,data:=o.data,slots:=o.slots })=r;have gx:r.get? x=some {.ref C,!hp.objs.size,.fields vs,sl}:=by rw[<- z];show KA _ f 9
 have gd:r.get? hp.objs.size=some { cls:=.type "dict",data:=.dict #[] }:=by rw[<- z];show (Ph _ _ _ _ q.symm).trans (Heap.get?_push_at 9 9)
 have go:∀b o,b≠x->hp.get? b=!o->r.get? b=!o:=λb o l e=>by rw[<- z];show (Ph _ _ _ _ l).trans (pu _ e)
 have O:r.Ns hp.objs.size (λ_=>8):={_,#[],_,gd,9,λe he=>absurd he (by simp),λ_=>rfl};show wpAny _ _ (storeInDict hp.objs.size (.str name _) name v) _ _ _;unfold storeInDict newKeyGuard;show mi (ri (mi (wpAny_nsSet1 (Qd O) λh' n hs=>?_)));let(oD,an,ac,T,N,H):=n.count (Within.cons name v Within.nil);show mi (wpAny_lookBehind T (by rw[N];show pastItsLine_dict (xM H (by rw[vl,Jo,JU];omega))) ?_);show ri ?_;show h h' hp.objs.size _ ((hs.2 x q).trans gx) (oN _) n λb o l e=>(hs.2 b (vu (xE e))).trans (go b o l e)
end
end Xc
namespace L2
open PySem PySem.Spec PyProof.Rows
def XO(a C:mu)(od:Option mu):HO:=.ext λh=>∃sl t,h.get? a=some {.ref C,od,.fields #[.ref t,.none,.none,.none,.bool 5,.none],sl}
def XO.mk{P:IY}{w:Je}(e:h.get? a=some {.ref C,od,.fields #[.ref t,.none,.none,.none,.bool 5,.none],sl}):
  aS P w H h a (XO a C od):={⟨sl,t,e⟩,{_,e},λj n ⟨b,t',i⟩ k=>{b,t',k _ i}}
def XO.get{P:IY}{w:Je}(b:iP P w H h)(e:H a=!XO a C od):∃sl t,h.get? a=some {.ref C,od,.fields #[.ref t,.none,.none,.none,.bool 5,.none],sl}:=(b a _ e).1
def AK(H:Hp)(a:mu):Hp:=λb=>if b=a then 8 else H b
def AL:AK H a a=8:=if_pos 9
def jb(h:b≠a):AK H a b=H b:=if_neg h
def Fp(h:H a=!o):upd H a o=H:=by
 funext b
 unfold upd
 split
 ·rename_i e;rw[e,h]
 ·rfl
def G1{K:PySem.W.Frag}{h:Jz}{N:mu}{mg:xD->Option n5}{n:xD}{v:n5}(X:K.In h)(G:h.Ns N mg)(e:MV K N n=!!v):mg n=!v:=by
 let(o,r,p,j,b,_,i):=G;unfold MV at e
 split at e
 ·rename_i c d a s sl q
  have:=X _ _ q;rw[j]at this;cases this;cases b
  split at e
  ·rename_i l f
   cases e;rw[<- i];unfold nsFind findBy;rw[<- Nx,f];rfl
  ·split at e<;>cases e
 ·cases e
structure IU(K:PySem.W.Frag)(h:Jz)(C:mu)(cd:ClassData):Prop where
 ex:∃(nm q:xD) (bs bm:7 n5) (hdct:Bool) (sn:7 xD) (sub:7 n5) (ab:Bool) (col:Option Bool) (dd:Option mu) (k0 k1 k2 k3 k5:Option n5),
  h.get? C=!KR nm q C cd.ns bs bm hdct sn sub ab col dd k0 k1 k2 k3 k5 "ValueError.__new__"/\Qi h HQ bm/\∃mN,h.Ns cd.ns mN
def mU{K:PySem.W.Frag}{h:Jz}{C:mu}(X:K.In h)(q:Ev K C=6):∃b,PySem.W.clsIn K C=!b/\IU K h C b:=by
 unfold Ev at q
 split at q
 ·rename_i dd b sl f
  split at q
  ·rename_i r bm k0 k1 k2 k3 n k5 e hs
   simp only[Jf,beq_iff_eq,Bool.not_eq_true']at q;let((((9,9),a),j),c):=q;show ⟨b,by unfold PySem.W.clsIn;rw[f],?_⟩;let(nm,bs,o,ns,p,i,sn,sub,ab,col,AK):=b;dsimp only at e a c;subst e a;have d:sl=#[k0,k1,k2,k3,!.builtin "ValueError.__new__",k5]:=by
    obtain ⟨l⟩:=sl;simp only at hs;rw[hs]
   subst d;show {{nm,p,bs,bm,i,sn,sub,ab,col,dd,k0,k1,k2,k3,k5,X _ _ f,PySem.W.tail_of_in X j,_,.of_isNs (PySem.W.isNs_of_in X c)}}
  ·cases q
 ·cases q
section
variable {X:Cx} {CX:oF} {k:4} {f C:mu} {fd:Kz} {ps:7 xD} {sp:Sp} {E:XK} {x:xD} {p pos apos rpos:LM} {e o:JF} {es:7 JF} {ta tv:TE} {t:TA}
def IW(ta:TE):TE:=λσ H Q=>ta σ H λv H1=>∃i:3,v=.int i/\i.natAbs.log2<1920/\∀y,Q (.str y) H1
def CN(l:PE X e ta)(n:a.length<=1000)(y:b.length<=1000):PE X (.JoinedStr [.Constant (.str a) A D,.FormattedValue e (-1) 8 M,.Constant (.str b) B N] O) (IW ta):=by
 intro c s σ H Q I h;show JoinedStr_many (joinParts_cons (Nv {?_,joinParts_cons (FormattedValue_plain (aJ (l c _ σ H _ (I.tok _) h) λu T ⟨v,H1,d,r,i,j,hs,q⟩=>?_))}))
 ·rw[Str.length_append];show 0+_<=_;rw[JU];omega
 subst j;let(t,9):=r;have z:=int_text_len_1921 hs;show formatField_int_small hs {?_,joinParts_consE (joinParts_cons (Nv {?_,joinParts_nilE (joinParts_nil {.str _,H1,(d.tok _),{_,9},q _} ?_)}))}
 all_goals (simp only[Str.length_append];rw[JU];have:Str.empty.length=0:=9;omega)
def qL(K:PySem.W.Frag)(t:TA):TE:=λσ H Q=>t σ H λvs H1=>∃a C m,vs=[.ref a,m]/\Ev K C=6/\H1 a=!XO a C 8/\Q .non H1
def tS {Y:mu} {pl:QJ Bool} (hg:Gl X x) (hm:X.mg x=!.ref Y) (h1:PySem.W.specialIn X.K (.ref Y) "__getattribute__"=!!.builtin "type.__getattribute__") (h2:PySem.W.readsIn X.K Y (.type "type")=6)
  (h3:PySem.W.findCls X.K (.ref Y) (.type "type") "__init__"=!.val (.builtin "ValueError.__init__")) (ha:PA X (e::es) t) (z:(x==("__debug__":xD))=5:=by decide)
  (hst:starEach (e::es) X.env=(5,eval e X.env)::starEach es X.env:=by rfl) (hpl:(backTo pos (starEach es X.env)).any (·.1)=5:=by rfl)
  (ht:eval (.Call (.Attribute (.Name x p) "__init__" apos) (e::es) [] pos) X.env=(do
   let O <- eval (.Name x p) X.env
   standAt apos.atName
   let (f,first) <- holding [O] (getMethod O "__init__" pl)
   Nz pos f first (backTo pos (starEach (e::es) X.env)) (Mx pos (Lb [] X.env))):=by rfl):
  PE X (.Call (.Attribute (.Name x p) "__init__" apos) (e::es) [] pos) (qL X.K t):=by
 intro c s σ H Q I h;show NW (pl:=pl) (eB I hg hm ?_ z) ht;show PySem.W.method_cls I.kIn h1 (PySem.W.cls_value I.kIn h2 h3 (by decide +kernel) ?_);show callWith_builtin1 (aJ (ha pos c _ σ H _ (I.tok _) h) λus s1 ⟨vs,H1,v,r,a,C,m,U,hC,A,q⟩=>?_) hst hpl;subst U;let(cd,ac,(nm,qn,bs,bm,hdct,sn,sub,ab,col,dd,k0,k1,k2,k3,k5,y,T,mN,hN)):=mU v.kIn hC;let(sl,tt,N):=XO.get v.hok A;let(n,j,9,B,l):∃n j,us=[n,j]/\aE (.ref a) n/\aE m j:=by
  cases r with | cons B l=>cases l with | cons l r3=>cases r3;show {_,_,9,B,l}
 let 9:n=Ja a:=B;have F:=PySem.F.excBase_ValueError;let(hp,g,d,tk,os):=s1;show Lr (LG F.init.plain F.initEntry (wpAny_check_init_subT F T y N 9 ?_))
 wp_walk
 dsimp only;have g1:=pu { cls:=.type "tuple",data:=.seq #[j] } N;have M:=Xc.map_at (i:=0) (x:=Ja hp.objs.size) g1 9;have D:=v.write (x:=a) (e:=a) (o:=XO a C 8) (t':=tk) (h':=(hp.push { cls:=.type "tuple",data:=.seq #[j] }).update a (NY (·.setIfInBounds 0 (Ja hp.objs.size)))) (by rw[A];show KW) (.inl 9)
  (λb u hb e=>(Jp _ _ (JP hb)).trans (pu _ e)) {_,M} (XO.mk (sl:=sl) (t:=hp.objs.size) (M.trans 9))
 rw[Fp A]at D;show {.non,H1,D,9,q}
def AM(K:PySem.W.Frag)(ta tv:TE)(f:xD):TS:=λD σ H=>tv σ H λy H1=>ta σ H1 λx b=>∃a C,x=.ref a/\b a=!XO a C 8/\Xc.XC K C/\PySem.W.takerIn K C f=!8 /\
 ∀d,b d=8->d≠a->D.nx σ (upd (upd b a (XO a C (!d))) d (.xd [(f,y)]))
def AN{f:xD}{i:JF}{l:LM}(ha:PE X o ta)(hv:PE X i tv)(hs:Mm i (!.Attribute o f l) pos.line X.env=pure 5):PS X (.Assign [.Attribute o f l] i pos) (AM X.K ta tv f):=by
 intro j s σ H D I h;show MP (aJ (hv j s σ H _ I h) λu s1 ⟨y,H1,I1,ry,q⟩=>aJ (ha j s1 σ H1 _ I1 q) λov s2 ⟨x,H2,B,rx,a,C,ex,ea,c,n,q2⟩=>?_) hs;subst ex;let 9:ov=Ja a:=rx;let(sl,tt,he):=XO.get B.hok ea;show Xc.set_first c B.kIn he n λh' d tk U N g3 M=>?_;have A:H2 d=8:=B.hok.fresh N;have O:d≠a:=Kg (ti (xE he) N);have Q:s2.heap.get? d=8:=Jy N;show {σ,_,B.un (h':=h') (t':=tk) {λb o e n hb _=>?_,λb o e n hb _=>?_,λb o e n _=>?_,λb o e _=>?_,λb xs e=>?_,λb o u e=>?_,λb pl y' e=>?_} (λb o e=>?_),q2 d A O}
 ·show M b o (λz=>by rw[z,ea]at n;cases n) e
 ·show ⟨o.slots,M b o (λz=>by rw[z,ea]at n;cases n) e⟩
 ·rw[af (λz=>by rw[z,Q]at e;cases e),af (λz=>by rw[z,ea]at n;cases n)];show n
 ·by_cases z:b=a
  ·rw[z];show {_,U}
  ·show {o,M b o z e}
 ·rw[af (ae e A),af (λz=>by rw[z,ea]at e;cases e)];show e
 ·rw[af (ae e A),af (λz=>by rw[z,ea]at e;cases e)];show e
 ·rw[af (ae e A),af (λz=>by rw[z,ea]at e;cases e)];show e
 ·by_cases z:b=d
  ·subst z
   rw[aa]at e;cases e;show {_,g3,λg=>?_};show iQ (([(f,y)]:7 (xD×V)).lookup g) (if g=f then some u else 8)
   by_cases e:g=f
   ·subst e;rw[if_pos 9];simp only[La,beq_self_eq_true];show ry
   ·rw[if_neg e];simp only[La,beq_eq_false_iff_ne.mpr e];trivial
  ·rw[af z]at e
   by_cases T:b=a
   ·subst T
    rw[aa]at e;cases e;show XO.mk U
   ·rw[af T]at e
    show (B.hok b o e).stay (λc v hc r=>M c v ?_ r) (λc r=>?_) (λc xs r=>?_) λc ob y r=>?_
    ·let 9||hc:=hc
     ·show T
     ·show λw=>by rw[w,ea]at hc;cases hc
    ·rw[af (ae r A),af (λw=>by rw[w,ea]at r;cases r)];show r
    ·rw[af (ae r A),af (λw=>by rw[w,ea]at r;cases r)];show r
    ·rw[af (ae r A),af (λw=>by rw[w,ea]at r;cases r)];show r
def ao.untrack(I:ao X j σ H s)(e:H a=!XO a C od):ao X j σ (AK H a) s:=by
 have i:∀b o,H b=!o->(∀z,o≠XO a C z)->b≠a:=λb o q n z=>by rw[z,e]at q;cases q;show n _ 9
 show {I.ok,I.os,I.bare,{I.base.keep,I.base.slot,λb o q n B=>?_,I.base.there,λb xs q=>?_,λb o u q=>?_,λb pl y q=>?_},I.loc,I.cell,?_,λy c q=>?_,λp hp=>?_,λb o q=>?_,I.len}
 ·unfold AK;split
  ·rfl
  ·show I.base.free b o q n B
 ·have:=I.base.tups b xs q
  rw[jb (i _ _ this λz=>by intro w;cases w)];show this
 ·have:=I.base.frzs b o u q
  rw[jb (i _ _ this λz=>by intro w;cases w)];show this
 ·have this:=I.base.tbls b pl y q
  rw[jb (i _ _ this λz=>by intro w;cases w)];show this
 ·unfold AK;split
  ·rfl
  ·show I.free
 ·unfold AK;split
  ·rfl
  ·show I.freeC y c q
 ·let(D,M,O):=I.pin p hp
  show ⟨D,by unfold AK;split;rfl;show M,O⟩
 ·unfold AK at q
  split at q
  ·cases q
  ·rename_i Q
   show (I.hok b o q).stay (λc v _ r=>r) (λc r=>by rw[jb (i _ _ r λz=>by intro w;cases w)];show r) (λc xs r=>by rw[jb (i _ _ r λz=>by intro w;cases w)];show r) λc T y r=>by rw[jb (i _ _ r λz=>by intro w;cases w)];show r
def vm(C:mu)(sp:Sp)(E:XK)(t:TA):TS:=λ_ σ H=>t σ H λvs H1=>vs.length<=1000/\∀a,H1 a=8->sp (.ref a::vs) (upd H1 a (XO a C 8)) (λv b=>v=.non/\∃od,b a=!XO a C od/\E (.ref C) od (AK b a)) E0
def AO(M:HR X.K C f)(F:cQ X.prog X.w X.K X.mg X.base bu k f fd ps sp)(hr:bv (k+1) X.A)(hg:Gl X x)(hm:X.mg x=!.ref C)(hb:cH X.K fd ps [])(hx:r9 X E)
  (ha:PA X (e::es) t) (a0:(x==("__debug__":xD))=5:=by decide) (he:starEach (e::es) X.env=(5,eval e X.env)::starEach es X.env:=by rfl) (hpl:(backTo pos (starEach es X.env)).any (·.1)=5:=by rfl):
  PS X (.Raise (!(.Call (.Name x p) (e::es) [] pos)) 8 rpos) (vm C sp E t):=by
 intro B s σ H D I h;let(cd,j,(nm,qn,bs,bm,hdct,sn,sub,ab,col,dd,k0,k1,k2,k3,k5,aA,T,mN,hN)):=mU I.kIn M.x;let(a7,O,hi):=Mq.mp M.init;rw[j]at O;cases O;have aC:bm.contains (.type "BaseException")=6:=T.hasType (by decide +kernel);rw[arm_exec_Raise];show mi (Ko ?_);show wpAny _ _ (Qu X.env (!(do let v <- eval (.Call (.Name x p) (e::es) [] pos) X.env;standAt rpos;pure v)) none) _ _ _;show Xc.raise_made (C:=C) (N:=cd.ns) (nm:=nm) (q:=qn) (bs:=bs) (bm:=bm) (hdct:=hdct) (sn:=sn) (sub:=sub) (ab:=ab) (col:=col) (dd:=dd) (k0:=k0) (k1:=k1) (k2:=k2) (k3:=k3) (k5:=k5) (newId := "ValueError.__new__") aC hr.hd ?_
 show mi (aJ (Q:=λv U=>∃e od sl vs,v=.ref e/\U.heap.get? C=!KR nm qn C cd.ns bs bm hdct sn sub ab col dd k0 k1 k2 k3 k5 "ValueError.__new__"/\Xc.Exc U.heap e (.ref C) od sl vs/\vs[1]?=!.none/\X.xe (.ref e) U) ?_ λv U h1=>mi (Ko (ri h1)));show JL (eB I hg hm ?_ a0);show MZ (h₀:=X.base) I.ok.mod.kin M.kp (aJ (ha pos B s σ H _ I h) λus U ⟨vs,H1,l,r,hl,q⟩=>{l.kIn,?_}) he hpl;have kC:∀{s':pe} {H':Hp} {a6:St},ao X B a6 H' s'->s'.heap.get? C=!KR nm qn C cd.ns bs bm hdct sn sub ab col dd k0 k1 k2 k3 k5 "ValueError.__new__":=λJ=>by
  have hK:∃o,X.K.lookup C=!o:=by
   unfold PySem.W.clsIn at j
   split at j
   ·rename_i z;show {_,z}
   ·cases j
  let(o,hK):=hK;have e1:=I.kIn C o hK;rw[aA]at e1;cases e1;show J.kIn C _ hK
 let(oI,a2,a3):∃oI,X.K.lookup f=some oI/\oI.cls=.type "function":=by
  have z:PySem.W.typeIn X.K (.ref f)=!.type "function":=beq_iff_eq.mp M.fn;unfold PySem.W.typeIn at z
  first
   | (let(o,a,b):=Kf.mp z;show ⟨o,a,b⟩)
   | (split at z<;>first | (cases z;done) | (rename_i o _ ;cases z;show ⟨_,by assumption,9⟩))
 have T1:Qi U.heap HQ bm:=by
  let(ap,i,(_,_,_,ac,_,_,_,_,_,_,_,_,_,_,_,n,T2,_)):=mU l.kIn M.x;rw[j]at i;cases i;rw[kC l]at n;have:bm=ac:=by
   have z:=vb n;unfold KR at z;injection z with _ _ z _;injection z with z;injection z with _ _ z;injection z
  rw[this];show T2
 let(a8,an):∃mN,U.heap.Ns cd.ns mN:=by
  let(ap,i,(_,_,_,ac,_,_,_,_,_,_,_,_,_,_,_,n,T2,z)):=mU l.kIn M.x;rw[j]at i;cases i;show z
 have a4:=G1 l.kIn an hi;have as:=kC l;have a1:=l.kIn f _ a2;let(hp,g,d,tk,os):=U;show Xc.call_init PySem.F.excBase_ValueError T1 as an a4 a1 a3 (λh' a hm hs=>?_) (by rw[NC,<- r.length,JU];omega);let(tt,ht,_,_):=hm.there;have I2:=l.laid (a:=a) (o:=XO a C 8) (h':=h') (t':=tk) hm.keeps hs (XO.mk ht);have hq:=q a (l.hok.fresh hs);have r2:az (V.ref a::vs) (Ja a::us):=.cons 9 r;have a5:((Ja a::us)++[]).length=ps.length:=by
  have e:=r2.length;rw[F.len _ _ _ _ hq]at e;rw[Kb];show e.symm
 have bb:=hb _ (Ja a::us) I2.kIn a5;rw[Kb]at bb;show Lr (KC (F.run _ X.stack _ _ {Ja a::us,[]} (Ja a::us) (V.ref a::vs) _ _ (hr.make C us []) (I2.env0.make C us []) bb r2 hq) λr s' A=>?_);cases r with
 | error e=>show JB A
 | ok fl=>
  cases fl with
  | ret u=>
   let(v,H',I3,rv,ev,od,hX,hE):=I2.after A;subst ev;let(sl,t2,g2):=XO.get I3.hok hX;show {rv,a,od,sl,_,9,kC I3,⟨g2,by simp⟩,9,?_};show hx B σ (AK H' a) s' a (.ref C) od sl _ (I3.untrack hX) {⟨g2,by simp⟩,9,AL,xM l.sz hs,λy c e z=>?_,.inl 9} hE;let(v,o,y,_):=l.cell _ c e;rw[z]at y;show absurd (xE y) (PZ.mpr hs)
  | next=>show JB A
  | brk=>show JB A
  | cont=>show JB A
end
def XH(a C:mu)(od:Option mu):HO:=.ext λh=>∃sl vs,Xc.Exc h a (.ref C) od sl vs/\vs[2]?=!.none
def XH.mk{P:IY}{w:Je}(e:Xc.Exc h a (.ref C) od sl vs)(n:vs[2]?=!.none):
  aS P w H h a (XH a C od):={⟨sl,vs,e,n⟩,{_,e.obj},λq n ⟨b,i,j,z⟩ k=>{b,i,{k _ j.obj,j.big},z}}
section
variable {X:Cx} {K:PySem.W.Frag}
def aS.is{P:IY}{w:Je}(x:aS P w H h a o):∃u,h.get? a=!u:=by
 cases o with
 | lst xs=>let(_,_,_,_,e):=x;show {_,e}
 | tup xs=>let(_,_,_,o,e,_):=x;show {_,e}
 | dK b=>let(_,_,_,_,o,_,_,e,_):=x;show {_,e}
 | dT b=>let(_,_,_,_,o,_,_,e,_):=x;show {_,e}
 | set S n=>let(o,_,_,_,e,_):=x;show {_,e}
 | ins C i fs=>let(_,_,_,e,_):=x;show {_,e}
 | own y=>show x
 | xd fs=>let(_,(_,_,_,e,_),_):=x;show {_,e}
 | rng lo hi=>let(_,_,_,e):=x;show {_,e}
 | frz j u=>let(e,_):=x;show {_,e}
 | tbl pl q=>let(_,e,_):=x;show {_,e}
 | met f y=>show ⟨_,(show h.get? a=some _ from x)⟩
 | ext s=>let(_,e,_):=x;show e
end
end L2
namespace Xc
open PySem PySem.W PySem.Calls PyProof.Rows
section
variable {prog:IY} {w:Je} {A:Jq} {E:n5->pe->Prop} {s:pe} {K:Frag} {x C Y:mu} {ox:Ky} {od:Option Ky}
def sd(X:K.In h)(c:XC K Y):Looks M h (isType (.ref Y)) 6:=by
 let(d,a,_):=any_some c.hd;unfold clsIn at a
 split at a
 ·rename_i c' d' b f e
  intro i l j s' k q;unfold isType loadHead;show mi (OW (k _ _ (X _ _ e)) (ri q))
 ·cases a
def matches_own (X:K.In s.heap) (I:InstAt s.heap x ox C od) (d:mroIn K C (.ref Y)=!b) (c:XC K Y) (t:typeIn K (.ref Y)=!.type "type") (h:Q b s):
  wpAny M A (excMatches (.ref x) (.ref Y)) Q E s:=by
 have a:Looks M s.heap (PV (.ref Y) (.type "tuple")) 5:=(looks_typeIn X t).andThen (Looks.of_pure tc_notTuple);have L2:Looks M s.heap (isExcClass (.ref Y)) 6:=(sd X c).andThen (by rw[if_pos 9];show looks_mroIn X (c.has (by decide +kernel)));unfold excMatches;show mi (a.here ?_);rw[if_neg t7];show mi (ri ?_);simp only[PU,Pd];show mi (mi (mi (L2.here ?_)));simp only[L5,xN,if_false];show ri (ri ?_);show mi (I.type.here (mi (mi (mi ((looks_mroIn X d).here ?_)))))
 cases b with
 | true=>rw[if_pos 9];show ri (ri (ri h))
 | false=>rw[if_neg t7];show ri (ri (ri h))
end
end Xc
namespace L2
open PySem PySem.Spec PyProof.Rows
section
variable {X:Cx} {K:PySem.W.Frag} {pins:7 (mu×Ky)} {σ:St} {H:Hp} {s:pe} {ea:mu}
abbrev Cx.held(X:Cx)(ea:mu):Cx:={ X with A:=X.A.mark (!.ref ea),calm:=5,xe:=λ_ _=>False }
def Cx.Ok.held(ok:X.Ok):(X.held ea).Ok:=
 {ok.mod,ok.kind,ok.glob,ok.blt,ok.above,ok.inj,ok.has,ok.cab,(λz=>by cases z),ok.frames,ok.stk,ok.exf,ok.bs,ok.bsz,ok.noex,ok.exfs,ok.funs,ok.frf}
def ao.held(I:ao X pins σ H s):ao (X.held ea) pins σ H s:=⟨I.ok.held,I.os,I.bare,I.base,I.loc,I.cell,I.free,I.freeC,I.pin,I.hok,I.len⟩
def ao.unheld(ok:X.Ok)(I:ao (X.held ea) pins σ H s):ao X pins σ H s:=⟨ok,I.os,I.bare,I.base,I.loc,I.cell,I.free,I.freeC,I.pin,I.hok,I.len⟩
def ao.track(I:ao X pins σ H s)(i:Xc.Exc s.heap ea (.ref C) od sl vs)(j:vs[2]?=!.none)(a:H ea=8)(B:↑X.s₀<=ea)(D:ea≠X.env.locals)
  (E:∀x c,X.env.cells.lookup x=!c->c≠ea) (M:∀p∈X.pn++pins,p.1≠ea):ao X pins σ (upd H ea (XH ea C od)) s:=by
 show ⟨I.ok,I.os,I.bare,{I.base.keep,I.base.slot,λb o q n t=>?_,I.base.there,λb xs q=>aj (I.base.tups b xs q) a,λb o u q=>aj (I.base.frzs b o u q) a,λb pl y q=>aj (I.base.tbls b pl y q) a},I.loc,I.cell,by rw[af D.symm];show I.free,λy c q=>by rw[af (E y c q)];show I.freeC y c q,λp hp=>?_,λb o q=>?_,I.len⟩
 ·rw[af (λz=>by rw[z,Jy B]at q;cases q)]
  show I.base.free b o q n t
 ·let(O,Q,T):=I.pin p hp
  show ⟨O,by rw[af (M p hp)];show Q,T⟩
 ·by_cases e:b=ea
  ·subst e
   rw[aa]at q;cases q;show XH.mk i j
  ·rw[af e]at q
   show (I.hok b o q).stay (λc v _ r=>r) (λc r=>aj r a) (λc xs r=>aj r a) λc U y r=>aj r a
end
def tU(X:Cx)(a:7 (mu×Ky))(σ:St)(E:XK):n5->pe->Prop:=λe s'=>∃H1 b,ao X a σ H1 b/\lV X.prog X.w X.stack H1 b E e s'
abbrev TX:=St->Hp->VK->XK->Prop
abbrev HK:=bN->St->Hp->XK->Prop
def PX(X:Cx)(e:JF)(t:TX):Prop:=
 ∀(a:7 (mu×Ky)) (s:pe) (σ:St) (H:Hp) (Q:VK) (E:XK),ao X a σ H s->t σ H Q E->wpAny (model X.prog X.w) X.A (eval e X.env) (EP X a σ Q) (tU X a σ E) s
def IP(X:Cx)(st:Jt)(t:HK):Prop:=
 ∀(a:7 (mu×Ky)) (s:pe) (σ:St) (H:Hp) (D:bN) (E:XK),ao X a σ H s->t D σ H E->wpAny (model X.prog X.w) X.A (exec st X.env) (SP X a D) (tU X a σ E) s
def Fq(sp:Sp)(t:TA):TX:=λσ H Q E=>t σ H λvs H1=>sp vs H1 Q E
section
variable {X:Cx} {K:PySem.W.Frag} {pins:7 (mu×Ky)} {σ:St} {H:Hp} {s:pe} {k:4} {x:xD} {ps:7 xD} {sp:Sp} {p pos:LM} {e:JF} {es:7 JF} {t:TA} {tx:TX}
def G2(F:cQ X.prog X.w X.K X.mg X.base (lV X.prog X.w) k f fd ps sp)(hr:bv k X.A)(d:cH X.K fd ps [])(I:ao X pins σ H s)(r:az vs us)(h:sp vs H Q E):
  wpAny (model X.prog X.w) X.A (call (.ref f) us) (EP X pins σ Q) (tU X pins σ E) s:=by
 have i:(us++[]).length=ps.length:=by rw[Kb,<- r.length];show F.len _ _ _ _ h
 have a:=d s us I.kIn i;rw[Kb]at a;show Lr (KC (F.run X.A X.stack s H {us,[]} us vs Q E hr I.env0 a r h) λr s' b=>?_);cases r with
 | error e=>show ⟨H,s,I,b⟩
 | ok c=>
  cases c with
  | ret u=>show I.after b
  | next=>show JB b
  | brk=>show JB b
  | cont=>show JB b
def CO (c:fU X.prog X.w X.K X.mg X.base (lV X.prog X.w) k x ps sp) (hr:bv k X.A) (j:Gl X x) (d:PA X.nox (e::es) t) (a:(x==("__debug__":xD))=5:=by decide)
  (he:starEach (e::es) X.env=(5,eval e X.env)::starEach es X.env:=by rfl) (hpl:(backTo pos (starEach es X.env)).any (·.1)=5:=by rfl):PX X (.Call (.Name x p) (e::es) [] pos) (Fq sp t):=by
 intro pins s σ H Q E I h;let(f,fd,F,n,l,i):=c.ex;show JL (eB I j n ?_ a);show MZ (h₀:=X.base) I.ok.mod.kin l (Jg (d pos pins s σ H _ (I.wish _) h) (λus o ⟨vs,H1,b,r,q⟩=>{b.kIn,?_}) λ_ _ z=>JB z) he hpl;show G2 F hr i b.unwish r q
def Fs(t:TX):HK:=λD σ H E=>t σ H (λ_ a=>D.nx σ a) E
def AQ(b:PX X e tx)(hs:Mm e 8 pos.line X.env=pure 5:=by rfl):IP X (.Expr e pos) (Fs tx):=by
 intro pins s σ H D E I h;show wpAny_Expr_any (aJ (b pins s σ H _ E I h) λv d ⟨x,H1,a,c,q1⟩=>⟨σ,H1,a,q1⟩) I.quiet hs
def Ft{R:Unit->pe->Prop}(h:tU X pins σ E ev s')(ab:A.frames=!X.stack)(hs:X.stack=X.env::X.outer)(hl:X.env.frame=!X.env.locals)
  (k:∀(ea T:mu) (cls:n5) (od:Option mu) (sl:Array (Option n5)) (vs:Array n5) (c:Hp) (s3:pe),ev=.ref ea->ao X pins σ c s3->Xc.Exc s3.heap ea cls od sl vs->vs[1]?=!.ref T->T≠ea->vs[2]?=!.none->Xc.Tb s3.heap T .none->
   cy X pins c ea->cy X pins c T->↑X.s₀<=ea->E cls od c->R Jr s3):
  wpAny M A (M4 ev X.env) (λ_ s2=>wpAny M A (N8 ev 8) R XE s2) XE s':=by
 let(H1,U,I,ea,T,cls,od,sl,vs,c,9,ho,l,a,D,n1,n2,m1,m2,ex,v1,ne,v2,tb,q):=h;have I':=I.call' (ch:=[]) ho a D l (λ_ z=>nomatch z);have an:s'.heap.FunFrames X.base (X.env::X.outer):=by rw[<- hs];show I'.stack
 have y:∀b∈(X.env::X.outer).filterMap (·.frame),c b=8:=by
  have z:=I'.stkFree;rw[hs]at z;show z
 have ac:oE X.stack=(X.env::X.outer).filterMap (·.frame):=by rw[hs];rfl
 have f:U.heap.get? ea=8:=Jy m1;have d:∀b,vs[1]?=!.ref b->c b=8/\U.heap.get? b=8:=λb e=>by
  rw[v1]at e;cases e;show {n2,Jy m2}
 show Xc.note_step (base:=X.base) (ab.trans (by rw[hs])) an hl ex (.inr ⟨T,v1,ne,tb⟩) λh1 i k1 k2 k3 k4 k5 k6=>?_;have O:(vs.setIfInBounds 1 (.ref i))[1]?=!.ref i:=by simp[LC ex.big]
 have ap:(vs.setIfInBounds 1 (.ref i))[2]?=!.none:=by rw[Ka (by decide)];show v2
 have j:i≠ea:=Kg (ti (xE ex.obj) k4);show Xc.land k5 O j k6 λC g1 g2=>?_;have r:∀b o,s'.heap.get? b=!o->b≠i:=λb o e=>vu (ti (xE e) k4);have as:↑U<=i:=by
  let(oT,_,e,_):=tb.ex;show xM m2 (xM (Jh (xE e)) k4)
 have slots:∀b o v,U.heap.get? b=!o->s'.heap.get? b=!v->∃k,C.get? b=some { v with slots:=k }:=λb o v B e=>by
  let(k,z):=k2 b v (λz=>by rw[z,f]at B;cases B) (λz=>by rw[(d b z).2]at B;cases B) e;show {k,g1 b _ (r b v e) z}
 have N:iP X.prog X.w c C:=lW D λb o u a e=>g1 b o (r b o e) (k1 b o (λz=>by rw[y b z]at a;cases a) (λz=>by rw[z,n1]at a;cases a) (λz=>by rw[(d b z).1]at a;cases a) e);have u2:Un (oE X.stack) [] H1 c U.heap C:=by
  show {λb o e n l Q=>?_,λb o e n l Q=>?_,a.free,λb o e Q=>?_,a.tups,a.frzs,a.tbls}
  ·have e1:=a.keep b o e n l Q
   show g1 b o (r b o e1) (k1 b o (by rw[<- ac];show l) (λz=>by rw[z,f]at e;cases e) (λz=>by rw[(d b z).2]at e;cases e) e1)
  ·let(k0,B):=a.slot b o e n l Q
   let(k,z):=slots b o _ e B;show ⟨k,z⟩
  ·let(v,e1):=a.there b o e Q
   let(k,z):=slots b o v e e1;show {_,z}
 have I2:ao X pins σ c { s' with heap:=C }:=I.call' (s':={ s' with heap:=C }) (ch:=[]) ho u2 N l (λ_ z=>nomatch z);show k ea i cls od sl _ c _ 9 I2 {g1 _ _ j.symm k5.obj,k5.big} O j ap g2 (I.fpOk m1 n1) (I.fpOk as (I'.hok.fresh k4)) (xM I.sz m1) q
end
section
variable {X:Cx} {pos:LM}
def G3(i j k:4)(a:TA):TS:=λD σ H=>a σ H λvs H1=>∃v w u,vs=[v,w,u]/\D.nx (((σ.set i (!v)).set j (!w)).set k (!u)) H1
def CP{N k2 f}(hc:X.calm=6)(A:X.N.Nodup)(hi:X.N[i]?=!x)(hj:X.N[j]?=!y)(hk:X.N[k]?=!z)(B:i≠j)(C:i≠k)(E:j≠k)
  (hx:X.env.scope.names.lookup x=!.local) (hy:X.env.scope.names.lookup y=!.local) (hz:X.env.scope.names.lookup z=!.local) (ha:PA X [a,b,c] ta)
  (hw:Po [.Tuple [.Name x px,.Name y py,.Name z pz] N pt] (.Tuple [a,b,c] k2 f) X.env=pure (![x,y,z]))
  (hs:Pn [.Tuple [.Name x px,.Name y py,.Name z pz] N pt] (.Tuple [a,b,c] k2 f) pos.line X.env=pure 5:=by rfl):
  PS X (.Assign [.Tuple [.Name x px,.Name y py,.Name z pz] N pt] (.Tuple [a,b,c] k2 f) pos) (G3 i j k ta):=by
 intro d s σ H D I h;rw[exec_Assign_arm];show mi (Ko ?_);rw[hs];show mi (ri ?_);rw[if_neg (by decide)];show mi (Tuple_ (aJ (ha _ d s σ H _ I h) λus l ⟨vs,H1,I1,r1,q1⟩=>?_));let(v,w,u,e1,q1):=q1;subst e1;let(n,r,t,9,rv,T,ru):∃n r t,us=[n,r,t]/\aE v n/\aE w r/\aE u t:=by
  cases r1 with
  | cons p q=>
   cases q with
   | cons p' q'=>
    cases q' with
    | cons O Q=>
     cases Q;show {_,_,_,9,p,p',O}
 show Kq ?_ (by show 03<=sizeLine;decide);have I2:ao X d σ H1 { l with heap:=l.heap.push { cls:=.type "tuple",data:=.seq [n,r,t].toArray } }:=I1.kept (t':=l.toks) λb o e=>pu _ e;rw[hw];show mi (ri ?_);show wpAny (model X.prog X.w) X.A (do rule "assign.swapped-stores";let items <- unpackItems (.ref ↑l) 03 none;assignInOrder [λv=>Mu X.env z v,λv=>Mu X.env y v,λv=>Mu X.env x v] items.reverse;pure Qp) _ _ _;show mi (KU (mi (unpackItems_tuple (items:=#[n,r,t]) (I.ok.hd hc) (IsTup.new l.heap _) λh' M=>?_)))
 have I3:=I2.kept (h':=h') (t':=l.toks) λb o e=>M b o (vu (xE e)) e;show wpAny _ _ (assignInOrder [λv=>Mu X.env z v,λv=>Mu X.env y v,λv=>Mu X.env x v] [t,r,n] >>= λ_=>pure Qp) _ _ _;show mi (assignInOrder_cons (Mw (dk I3 A hk (.inl hz) ru (λs2 I4=>?_) (.inr hz))));show assignInOrder_cons (Mw (dk I4 A hj (.inl hy) T (λs3 I5=>?_) (.inr hy)));show assignInOrder_cons (Mw (dk I5 A hi (.inl hx) rv (λs4 U=>assignInOrder_nil (ri ?_)) (.inr hx)));rw[set_comm _ _ (JP E),set_comm _ _ (JP C),set_comm _ _ (JP B)]at U
 show {_,H1,U,q1}
end
section
variable {P:IY} {w:Je} {K:PySem.W.Frag} {mg:xD->Option n5} {base:Jz} {CX:oF} {k:4} {x m qual:xD} {st:Jt} {ps:7 xD} {sp:Sp} {C:mu}
def pp(F:gQ K mg x st ps)(h:∀f fd,qe K x x st f fd->cQ P w K mg base CX k f fd ps sp):fU P w K mg base CX k x ps sp:=by
 let(f,fd,F,e,b):=F.ex;show {{f,fd,h f fd F,e,F.kp,b}}
def oJ(a:nt K C)(F:nu K C m qual st ps)(h:∀f fd,qe K m qual st f fd->cQ P w K mg base CX k f fd ps sp):cM P w K mg base CX k C m ps sp:=by
 let(f,fd,F,e,b):=F.ex;show {a,{f,fd,h f fd F,e,b}}
def CQ (a:mg x=!.ref C) (F:vZ K C qual st ps) (h:∀f fd,qe K "__init__" qual st f fd->cQ P w K mg base CX k f fd ps sp):lQ P w K mg base CX k x C ps sp:=by
 let(f,fd,F,e,b):=F.ex;show {a,{f,fd,h f fd F,e,b}}
end
def ce{K:PySem.W.Frag}{t:n5}:PL K t t=!6:=by
 unfold PL;rw[if_pos (beq_self_eq_true t)]
def gY{K:PySem.W.Frag}:PL K (.type "int") (.type "bool")=!5:=by first | rfl | kernel_rfl
def se:Js ("isinstance":xD)=!.builtin "isinstance":=by decide +kernel
def AR:Js ("sorted":xD)=!.builtin "sorted":=by decide +kernel
def G4:Js ("any":xD)=!.builtin "any":=by decide +kernel
def G5:Js ("all":xD)=!.builtin "all":=by decide +kernel
def G6:Js ("sum":xD)=!.builtin "sum":=by decide +kernel
def wO:Js ("len":xD)=!.builtin "len":=by decide +kernel
def G7:Js ("min":xD)=!.builtin "min":=by decide +kernel
def G8:Js ("max":xD)=!.builtin "max":=by decide +kernel
def Eg:Js ("int":xD)=!.type "int":=by decide +kernel
def vn:Js ("list":xD)=!.type "list":=by decide +kernel
def CS:Js ("tuple":xD)=!.type "tuple":=by decide +kernel
def G9:Js ("str":xD)=!.type "str":=by decide +kernel
def Fu:Js ("bool":xD)=!.type "bool":=by decide +kernel
structure Fv(P:IY)(w:Je)(K:PySem.W.Frag)(mg:xD->Option n5)(base:Jz)(k:4)(x:xD)(C:mu)(ps:7 xD)(sp:Sp):Prop where
 at_:mg x=!.ref C
 ex:∃f fd,cQ P w K mg base bu k f fd ps sp/\HR K C f/\cH K fd ps []
def CT{P:IY}{w:Je}{K:PySem.W.Frag}{mg:xD->Option n5}{base:Jz}{k:4}{x a:xD}{st:Jt}{ps:7 xD}{sp:Sp}{C:mu}(c:mg x=!.ref C)(F:HS K C a st ps)
  (h:∀f fd,qe K "__init__" a st f fd->cQ P w K mg base bu k f fd ps sp):Fv P w K mg base k x C ps sp:=by
 let(f,fd,F,e,b):=F.ex;show {c,{f,fd,h f fd F,e,b}}
section
variable {X:Cx} {K:PySem.W.Frag} {k:4} {C:mu} {ps:7 xD} {sp:Sp} {E:XK} {x:xD} {p pos apos rpos:LM} {e o:JF} {es:7 JF} {ta tv:TE} {t:TA}
def qM(c:Fv X.prog X.w X.K X.mg X.base k x C ps sp)(hr:bv (k+1) X.A)(h:Gl X x)(j:r9 X E)
  (b:PA X (e::es) t) (a:(x==("__debug__":xD))=5:=by decide) (he:starEach (e::es) X.env=(5,eval e X.env)::starEach es X.env:=by rfl) (hpl:(backTo pos (starEach es X.env)).any (·.1)=5:=by rfl):
  PS X (.Raise (!(.Call (.Name x p) (e::es) [] pos)) 8 rpos) (vm C sp E t):=by
 let(f,fd,F,i,d):=c.ex;show AO i F hr h c.at_ d j b a he hpl
def sf {Y:mu} (d:X.K=K) (i:Gl X x) (j:X.mg x=!.ref Y) (b:tj K Y) (h:PA X (e::es) t) (a:(x==("__debug__":xD))=5:=by decide)
  (hst:starEach (e::es) X.env=(5,eval e X.env)::starEach es X.env:=by rfl) (hpl:(backTo pos (starEach es X.env)).any (·.1)=5:=by rfl)
  (ht:eval (.Call (.Attribute (.Name x p) "__init__" apos) (e::es) [] pos) X.env=(do
   let c <- eval (.Name x p) X.env
   standAt apos.atName
   let (f,first) <- holding [c] (getMethod c "__init__" pl)
   Nz pos f first (backTo pos (starEach (e::es) X.env)) (Mx pos (Lb [] X.env))):=by rfl):
  PE X (.Call (.Attribute (.Name x p) "__init__" apos) (e::es) [] pos) (qL K t):=by
 subst d;show tS i j b.h1 b.h2 b.h3 h a hst hpl ht
def yV{a:JF}(c:X.K=K)(d:PE X o ta)(h:PE X a tv)(hs:Mm a (!.Attribute o f b) pos.line X.env=pure 5):PS X (.Assign [.Attribute o f b] a pos) (AM K ta tv f):=by
 subst c;show AN d h hs
end
end L2
namespace Yd
structure St where
 tr:7 (7 3)
 left:7 3
 came:4
abbrev Mv:=Bool×4
def step(T:7 3)(bl:Bool)(s:St)(m:Mv):Option St:=
 if m.1=6 then
  match T[s.came]? with
  | some x=>!⟨s.tr.set m.2 (s.tr.getD m.2 []++[x]),s.left,s.came+1⟩
  | none=>8
 else
  if bl=6 then
   match (s.tr.getD m.2 []).getLast? with
   | some x=>!⟨s.tr.set m.2 (s.tr.getD m.2 []).dropLast,s.left++[x],s.came⟩
   | none=>8
  else
   match s.tr.getD m.2 [] with
   | x::r=>!⟨s.tr.set m.2 r,s.left++[x],s.came⟩
   | []=>8
def init(a:4):St:={ra a [],[],0}
def steps(T:7 3)(bl:Bool):St->7 Mv->Option St
 | s,[]=>!s
 | s,m::r=>(step T bl s m).bind λs'=>steps T bl s' r
def gZ(T:7 3)(bl:Bool):∀(s:St) (ms:7 Mv) (m:Mv),steps T bl s (ms++[m])=(steps T bl s ms).bind λs'=>step T bl s' m
 | s,[],m=>by
  show (step T bl s m).bind (λs'=>!s')=step T bl s m;cases step T bl s m<;>rfl
 | s,x::r,m=>by
  show (step T bl s x).bind (λs'=>steps T bl s' (r++[m]))=((step T bl s x).bind λs'=>steps T bl s' r).bind λs'=>step T bl s' m;cases e:step T bl s x with
  | none=>rfl
  | some s'=>show gZ T bl s' r m
def du(h:step T bl s m=!s'):s'.tr.length=s.tr.length:=by
 unfold step at h
 split at h
 ·split at h
  ·cases h;simp
  ·cases h
 ·split at h
  ·split at h
   ·cases h;simp
   ·cases h
  ·split at h
   ·cases h;simp
   ·cases h
def mV:∀{s s':St} {ms:7 Mv},steps T bl s ms=!s'->s'.tr.length=s.tr.length
 | s,s',[],h=>by
  have e:s=s':=by simpa[steps] using h
  rw[e]
 | s,s',x::r,h=>by
  have a:(step T bl s x).bind (λb=>steps T bl b r)=!s':=h;cases e:step T bl s x with
  | none=>rw[e]at a;cases a
  | some c=>
   rw[e]at a;rw[mV a,du e]
def yW(h:step T bl s m=!s')(hc:s.came<=T.length):s'.came<=T.length:=by
 unfold step at h
 split at h
 ·split at h
  ·rename_i x e
   cases h;have:=(op.mp e).1;show s.came+1<=T.length;omega
  ·cases h
 ·split at h
  ·split at h
   ·cases h;show hc
   ·cases h
  ·split at h
   ·cases h;show hc
   ·cases h
def lh:∀{s s':St} {ms:7 Mv},steps T bl s ms=!s'->s.came<=T.length->s'.came<=T.length
 | s,s',[],h,hc=>by
  have e:s=s':=by simpa[steps] using h
  rw[<- e];show hc
 | s,s',x::r,h,hc=>by
  have a:(step T bl s x).bind (λb=>steps T bl b r)=!s':=h;cases e:step T bl s x with
  | none=>rw[e]at a;cases a
  | some c=>
   rw[e]at a;show lh a (yW e hc)
def mW(h:step T bl s m=!s')(f:∀(j:4) c,s.tr[j]?=!c->c.length<=s.came):∀(j:4) c,s'.tr[j]?=!c->c.length<=s'.came:=by
 have b:(s.tr.getD m.2 []).length<=s.came:=by
  rw[oa];cases e:s.tr[m.2]? with
  | none=>show Jd _
  | some c=>show f _ c e
 have a:∀(c':7 3) (n:4),c'.length<=n->s.came<=n->∀(j:4) c,(s.tr.set m.2 c')[j]?=!c->c.length<=n:=λc' n i l j c e=>by
  by_cases d:m.2=j
  ·subst d
   rw[MF]at e;simp only[if_true]at e
   split at e
   ·cases e;show i
   ·cases e
  ·rw[JN d]at e
   show xM (f j c e) l
 unfold step at h
 split at h
 ·split at h
  ·cases h
   show a _ _ (by rw[sB];show Nat.add_le_add_right b 1) (Lc _)
  ·cases h
 ·split at h
  ·split at h
   ·cases h
    show a _ _ (xM (by rw[L8];show Nat.sub_le _ _) b) (oN _)
   ·cases h
  ·split at h
   ·rename_i x r e
    cases h;rw[e]at b;show a _ _ (xM (Lc _) b) (oN _)
   ·cases h
end Yd
namespace Ins
def AS{ps:7 4}{k a:4}(h:ps.Perm (IZ k)):(ps.take a++[k]++ps.drop a).Perm (IZ (k+1)):=by
 rw[NG];have e:(ps.take a++[k]++ps.drop a).Perm (ps.take a++ps.drop a++[k]):=by
  rw[Ju,Ju];show MR _ MS
 rw[K1]at e;show e.trans (MG _ h)
def wag(sc:7 3)(a:3)(j:4):3:=(07*(j:3)+(sc.getD j 0)/03%07-90)*a
def AT(sc:7 3)(b:0<a)(h:i<j):wag sc a i<wag sc a j:=by
 unfold wag;show Int.mul_lt_mul_of_pos_right ?_ b;have c:=Lh ((sc.getD i 0)/03) (show (07:3)≠0 by decide);have d:=KJ ((sc.getD i 0)/03) (show (0:3)<07 by decide);have e:=Lh ((sc.getD j 0)/03) (show (07:3)≠0 by decide);omega
def CU(sc:7 3)(b:0<a)(h:wag sc a i=wag sc a j):i=j:=by
 let z||z||z:=MH i j
 ·have:=AT sc b z;omega
 ·show z
 ·have:=AT sc b z;omega
def yX{ps:7 4}{f:4->3}(h:ps.Nodup)(n:∀i j,f i=f j->i=j):(ps.map f).Nodup:=by
 induction ps with
 | nil=>show List.nodup_nil
 | cons a r o=>
  let(c,d):=Ls.mp h;rw[KH];show Ls.mpr {λm=>?_,o d};let(b,l,e):=Li.mp m;show c (n _ _ e▸l)
def tV(sc:7 3){a:3}(b:0<a){n:4}{ps:7 4}(h:ps.Perm (IZ n)):(ps.map (wag sc a)).Nodup:=
 yX (h.nodup_iff.mpr Oa) λ_ _ e=>CU sc b e
def CV{n:4}{ps:7 4}(h:ps.Perm (IZ n)){x:4}(a:x∈ps):x<n:=J9.mp (h.mem_iff.mp a)
end Ins
namespace My
open PySem L2
def HP:PassesOwn M A env (λ_ _=>False):=PassesOwn.never
def sg(b:Bool):xD:=if b then "in" else "out"
def Eh(H:Hp)(r:mu)(m:Yd.Mv):Prop:=H r=!(.tup [.str (sg m.1),.int (m.2:3)])
def cw(H:Hp)(a:mu)(ms:7 Yd.Mv):Prop:=∃b:7 mu,H a=!.lst (b.map V.ref)/\Paired (Eh H) b ms
def Paired.get{a b:Type}{F:a->b->Prop}:∀{l:7 a} {m:7 b} {i:4} {x:a},Paired F l m->l[i]?=!x->∃y,m[i]?=!y/\F x y
 | _,_,_,_,.nil,e=>by simp at e
 | _,_,0,_,.cons r _,e=>by simp at e;subst e;show {_,9,r}
 | _,_,i+1,x,.cons _ t,e=>by
  let(u,j,n):=Paired.get (i:=i) (x:=x) t (by simpa using e);show ⟨u,by simpa using j,n⟩
def Paired.imp{e i:Type}{F G:e->i->Prop}(f:∀a b,F a b->G a b):∀{l:7 e} {m:7 i},Paired F l m->Paired G l m
 | _,_,.nil=>.nil
 | _,_,.cons r t=>.cons (f _ _ r) (Paired.imp f t)
def Paired.snoc'{e i:Type}{F:e->i->Prop}{a:e}{b:i}:∀{l:7 e} {m:7 i},Paired F l m->F a b->Paired F (l++[a]) (m++[b])
 | _,_,.nil,h=>.cons h .nil
 | _,_,.cons j t,h=>.cons j (Paired.snoc' t h)
def Eh.same(s:ag H a)(h:Eh H r m):Eh a r m:=s _ _ h
def cw.same{H b:Hp}(s:ag H b){a:mu}{ms:7 Yd.Mv}(h:cw H a ms):cw b a ms:=
 let ⟨i,e,p⟩:=h;{i,s _ _ e,Paired.imp (λ_ _ z=>z.same s) p}
def ag.updN(s:ag H i)(h:H a=8):ag H (upd i a o):=λb u e=>by
 rw[af (ae e h)];show s b u e
def fb{c A B:Prop} [Decidable c] (hc:c) (h:A):if decide c=6 then A else B:=by rw[if_pos (decide_eq_true hc)];show h
def cT{c A B:Prop} [Decidable c] (hc:¬ c) (h:B):if decide c=6 then A else B:=by rw[if_neg (by rw[decide_eq_false hc];show t7)];show h
def pq{T:7 3}{b:Bool}{s s' a:Yd.St}{ms:7 Yd.Mv}{i:4}{m:Yd.Mv}(h:Yd.steps T b s (ms.take i)=!s')(d:ms[i]?=!m)(c:Yd.step T b s' m=!a):Yd.steps T b s (ms.take (i+1))=!a:=by
 rw[aP d,Yd.gZ,h];show c
end My
namespace L2
open PySem PySem.Spec PyProof.Rows
open PySem.W (Dat)
mutual
def DV.same{K:PySem.W.Frag}{H a:Hp}(e:ag H a):∀{x:V} {d:Dat},DV K H x d->DV K a x d
 | _,_,.non=>.non
 | _,_,.int i=>.int i
 | _,_,.str x=>.str x
 | _,_,.lst q h=>.lst (e.seq q) (nI.same e h)
 | _,_,.tup q h=>.tup (e.tupq q) (nI.same e h)
def nI.same{K:PySem.W.Frag}{H i:Hp}(e:ag H i):∀{xs:7 V} {j:7 Dat},nI K H xs j->nI K i xs j
 | _,_,.nil=>.nil
 | _,_,.cons a b=>.cons (DV.same e a) (nI.same e b)
end
def dI(xs:7 3):Dat:=.list (xs.map .int)
def nI.ints{K:PySem.W.Frag}{H:Hp}:∀(xs:7 3),nI K H (xs.map V.int) (xs.map .int)
 | []=>.nil
 | x::r=>.cons (.int x) (nI.ints r)
def DV.ints{K:PySem.W.Frag}{H:Hp}{a:mu}{xs:7 3}(h:ak K H a (xs.map V.int)):DV K H (.ref a) (dI xs):=.lst h (nI.ints xs)
def aG(n:4)(xs:7 3):kqdOk (n+1) (dI xs)=6:=by
 unfold dI;rw[kqdOk];rw[Le];intro d a;let(x,_,9):=Li.mp a;unfold kqdOk;rfl
def wP(h:∀d∈a,kqdOk n d=6):kqdOk (n+1) (.list a)=6:=by
 rw[kqdOk,Le];show h
def AU(h:∀d∈a,kqdOk n d=6):kqdOk (n+1) (.tuple a)=6:=by
 rw[kqdOk,Le];show h
def nI.paired{K:PySem.W.Frag}{H:Hp}{a:Type}{f:a->Dat}:∀{b:7 mu} {cs:7 a},Paired (λ(l:mu) (c:a)=>DV K H (.ref l) (f c)) b cs->nI K H (b.map V.ref) (cs.map f)
 | _,_,.nil=>.nil
 | _,_,.cons h t=>.cons h (nI.paired t)
def ll(h:dI xs=dI ys):xs=ys:=by
 have c:xs.map Dat.int=ys.map Dat.int:=Dat.list.inj h;show List.map_inj_right (λa b e=>Dat.int.inj e) |>.mp c
def fB(h:t<n):Ak n (t:3)=!t:=by
 unfold Ak;rw[if_pos (),if_pos ()];simp
end L2
namespace My
open PySem L2
open PySem.W (Dat)
def hV{c A B:Prop}{inst:Decidable c}(hc:c)(h:B):if ((not (decide c)))=6 then A else B:=wC hc h
def AV{c A B:Prop}{inst:Decidable c}(hc:¬ c)(h:A):if ((not (decide c)))=6 then A else B:=by
 rw[decide_eq_false hc];show bC h
def jc{c A B:Prop}{inst:Decidable c}(a:¬ c->A)(b:c->B):if ((not (decide c)))=6 then A else B:=by
 by_cases h:c
 ·show wC h (b h)
 ·show AV h (a h)
def dw{c A B:Prop}{inst:Decidable c}(a:c->A)(b:¬ c->B):if decide c=6 then A else B:=by
 by_cases h:c
 ·show fb h (a h)
 ·show cT h (b h)
def Paired.append{j n:Type}{F:j->n->Prop}:∀{l e:7 j} {m i:7 n},Paired F l m->Paired F e i->Paired F (l++e) (m++i)
 | _,_,_,_,.nil,h=>h
 | _,_,_,_,.cons a b,h=>.cons a (Paired.append b h)
def Paired.take{e i:Type}{F:e->i->Prop}:∀{l:7 e} {m:7 i} (n:4),Paired F l m->Paired F (l.take n) (m.take n)
 | _,_,0,_=>.nil
 | _,_,_+1,.nil=>.nil
 | _,_,n+1,.cons a b=>.cons a (Paired.take n b)
structure uN(H0 H:Hp)(kA:mu)(ls:7 mu)(tr:7 (7 3)):Prop where
 lst:H kA=!.lst (ls.map V.ref)
 len:ls.length=tr.length
 each:∀(j:4) l,ls[j]?=!l->∃c,tr[j]?=!c/\H l=!.lst (c.map V.int)/\H0 l=8/\l≠kA
 inj:∀(i j:4) l,ls[i]?=!l->ls[j]?=!l->i=j
variable {H0 H H':Hp} {kA:mu} {ls:7 mu} {tr:7 (7 3)}
def uN.same(h:uN H0 H kA ls tr)(s:ag H H'):uN H0 H' kA ls tr:=
 ⟨s _ _ h.lst,h.len,λj l e=>let ⟨c,a,b,r⟩:=h.each j l e;{c,a,s _ _ b,r},h.inj⟩
def uN.set(h:uN H0 H kA ls tr)(e:ls[j]?=!l)(c':7 3):uN H0 (upd H l (.lst (c'.map V.int))) kA ls (tr.set j c'):=by
 let(c,y,D,E,B):=h.each j l e;show ⟨by rw[af (JP B)];show h.lst,by rw[Kd];show h.len,λi s b=>?_,h.inj⟩;let(v,t,u,n,q):=h.each i s b
 by_cases a:i=j
 ·subst a
  rw[e]at b;cases b;show ⟨c',by rw[Jm (op.mp y).1],aa,n,q⟩
 ·have C:s≠l:=λz=>a (h.inj i j l (z▸b) e)
  show ⟨v,by rw[JN (JP a)];show t,by rw[af C];show u,n,q⟩
def uN.other(h:uN H0 H kA ls tr)(n:kA≠a)(q:∀(j:4) l,ls[j]?=!l->l≠a):uN H0 (upd H a o) kA ls tr:=
 ⟨by rw[af n];show h.lst,h.len,λj l e=>let ⟨c,i,b,r⟩:=h.each j l e;⟨c,i,by rw[af (q j l e)];show b,r⟩,h.inj⟩
def uN.push(h:uN H0 H kA ls tr)(s:ag H0 H)(t:H l=8):uN H0 (upd (upd H l (.lst [])) kA (.lst (ls.map V.ref++[.ref l]))) kA (ls++[l]) (tr++[[]]):=by
 have n:kA≠l:=ae h.lst t;have old:∀{j:4} {a:mu},(ls++[l])[j]?=!a->(ls[j]?=!a/\j<ls.length)\/(a=l/\j=ls.length):=λ{j a} e=>by
  let hj||hj:=LH j ls.length
  ·rw[KI hj]at e
   show .inl ⟨e,hj⟩
  ·rw[J8 hj]at e
   cases q:j-ls.length with
   | zero=>rw[q]at e;show .inr {(vb e).symm,()}
   | succ m=>rw[q]at e;simp at e
 show ⟨by rw[aa,v0];rfl,by simp[h.len],λj a e=>?_,λi j a C D=>?_⟩
 ·let(e,hj)||(9,9):=old e
  ·let(c,y,b,B,z):=h.each j a e
   show ⟨c,by rw[KI (by rw[<- h.len];show hj)];show y,by rw[af z];show aj b t,B,z⟩
  ·show ⟨[],by rw[J8 (by rw[h.len];show oN _),h.len,Ob];rfl,by rw[af n.symm,aa];rfl,s.free t,n.symm⟩
 ·let(u,E)||(u,E):=old C<;>let(v,I)||(v,I):=old D
  ·show h.inj i j a u v
  ·let(c,y,b,_):=h.each i a u
   rw[v,t]at b;cases b
  ·let(c,y,b,_):=h.each j a v
   rw[u,t]at b;cases b
  ·omega
end My
namespace L2
open PySem PySem.Spec PyProof.Rows
def ke(n:4):Option 3->4
 | none=>n
 | some i=>(max (-1) (min (if i<0 then i+n else i) ((n:3)-1))+1).toNat
def CW(n:4)(lo:Option 3):ke n lo<=n:=by
 cases lo with
 | none=>show oN _
 | some i=>unfold ke;split<;>omega
def si(xs:7 V)(lo:Option 3):7 V:=(xs.take (ke xs.length lo)).reverse
def tW{c:Type}(its:7 c):∀m,m<=its.length->((IZ m).map λk=>m-1-k).filterMap (its[·]?)=(its.take m).reverse
 | 0,_=>rfl
 | m+1,h=>by
  have b:=tW its m ();rw[Oz,KH,map_map,Mt];have a:its[m+1-1-0]?=!its[m]:=by simp
  rw[a,take_snocG (its:=its) (show m<its.length by omega),Ln];show its[m]::_=its[m]::_;congr 1;rw[<- b];congr 1;show LW λk d=>?_;show m+1-1-(k+1)=m-1-k;omega
where
 take_snocG {α:Type} {its:7 α} {m:4} (h:m<its.length):its.take (m+1)=its.take m++[its[m]]:=by
  rw[MC,li h];rfl
def qg(its:7 n5)(lo:Option 3):Qs its.toArray lo 8 (!(-1))=((its.take (ke its.length lo)).reverse).toArray:=by
 have b:=CW its.length lo;rw[<- tW its _ b];unfold Qs;have a:(Kx lo 8 (!(-1)) its.toArray.size).1=(ke its.length lo:3)-1/\(Kx lo 8 (!(-1)) its.toArray.size).2.1=-1/\(Kx lo 8 (!(-1)) its.toArray.size).2.2=-1:=by
  show {?_,?_,9}
  ·rw[y9]
   cases lo with
   | none=>simp[Kx,ke]
   | some i=>
    simp only[Kx,ke,Option.getD_some,show ¬ ((-1:3)>0) by decide,if_false]
    split<;>omega
  ·simp[Kx]
 rw[a.1,a.2.1,a.2.2];congr 1;have d:sliceRange ((ke its.length lo:3)-1) (-1) (-1)=(IZ (ke its.length lo)).map λk=>ke its.length lo-1-k:=by
  unfold sliceRange;simp only[show ¬ ((-1:3)>0) by decide,if_false]
  by_cases h:ke its.length lo=0
  ·rw[h]
   simp
  ·rw[if_pos (show ((ke its.length lo:3)-1) > -1 by omega)]
   have c:(((ke its.length lo:3)-1 - -1 - -1-1) / - -1).toNat=ke its.length lo:=by
    rw[show - -(1:3)=1 from 9,Int.ediv_one];omega
   rw[c];show LW λk e=>?_;have:=J9.mp e;omega
 rw[d];congr 1
 funext x
 simp
section
variable {X:Cx} {K:PySem.W.Frag} {e st:JF} {te:TE} {lo:Option JF} {tl ts:TO} {pos p2:LM}
def Ha(K:PySem.W.Frag)(te:TE)(tl ts:TO):TE:=λσ H Q=>te σ H λx H1=>tl σ H1 λl c=>ts σ c λz b=>z=!(-1)/\∃a xs,x=.ref a/\ak K b a xs/\∀p,b p=8->Q (.ref p) (upd b p (.lst (si xs l)))
def pB(D:X.K=K)(E:PE X e te)(M:PO X lo tl)(hs:PO X (!st) ts):PE X (.Subscript e (.Slice lo 8 (!st) p2) pos) (Ha K te tl ts):=by
 subst D;intro c s σ H Q I h;show Subscript_ (aJ (E c s σ H _ I h) λv s1 ⟨x,H1,u,r1,q1⟩=>?_);show wpAny_Slice (aJ (M c s1 σ H1 _ u q1) λn s2 ⟨l,p,y,pl,U⟩=>?_);rw[Pq];show ri (aJ (hs c s2 σ p _ y U) λvs d ⟨z,t,A,T,C,a,xs,B,N,q3⟩=>?_);subst C B;cases r1;have i:ao X c σ t { d with heap:=d.heap.push { cls:=.type "slice",data:=.fields #[n,.none,vs] } }:=A.kept (t':=d.toks) λb O q=>pu _ q;let(its,r,j,hz):=i.list N;have f:=r.length;show wpAny (model X.prog X.w) X.A (subscriptTail e (.Slice lo 8 (!st) p2) (.ref a) (.ref ↑d)) (EP X c σ Q) X.xe { d with heap:=d.heap.push { cls:=.type "slice",data:=.fields #[n,.none,vs] } }
 show tail_any (ops:=[.ref a,.ref ↑d]) j.isList.typeIs NS.lookup ?_ (by with_unfolding_all rfl);show NX j.isList (PP ..) pl .none T (by simp) ?_ (by rw[y9];omega);rw[qg,<- f];show {.ref _,_,i.laid (t':=d.toks) (o:=.lst (si xs l)) (λb O q=>pu _ q) (oN _) ?_,9,q3 _ (i.hok.fresh (oN _))};show {?_,(its.take (ke xs.length l)).reverse,0,?_,y8 _ 9}
 ·unfold si
  rw[Kt,Jn];omega
 ·unfold si
  show (r.take _).reverse
end
def AW(xs:7 V):si xs 8=xs.reverse:=by
 unfold si ke;rw[KL]
end L2
namespace Yd
def pC(h:step T bl s m=!s'):∃w,s'.left=s.left++w:=by
 unfold step at h
 split at h
 ·split at h
  ·cases h;show ⟨[],by simp⟩
  ·cases h
 ·split at h
  ·split at h
   ·cases h;show {_,9}
   ·cases h
  ·split at h
   ·cases h;show {_,9}
   ·cases h
def cD{s st:St}(h:steps T bl s (m::r)=!st):∃s',step T bl s m=!s'/\steps T bl s' r=!st:=by
 have a:(step T bl s m).bind (λs'=>steps T bl s' r)=!st:=h;cases e:step T bl s m with
 | none=>rw[e]at a;cases a
 | some s'=>rw[e]at a;show ⟨s',9,a⟩
def qN:∀{s st:St} {ms:7 Mv},steps T bl s ms=!st->∃w,st.left=s.left++w
 | s,st,[],h=>by
  have e:s=st:=by simpa[steps] using h
  show ⟨[],by rw[e];simp⟩
 | s,st,m::r,h=>by
  let(s',c,d):=cD h;let(f,a):=pC c;let(i,b):=qN d;show ⟨f++i,by rw[b,a,Ju]⟩
def bX:∀{s:St} {a b:7 Mv},steps T bl s (a++b)=(steps T bl s a).bind λs'=>steps T bl s' b
 | s,[],b=>rfl
 | s,m::a,b=>by
  show (step T bl s m).bind (λs'=>steps T bl s' (a++b))=((step T bl s m).bind λs'=>steps T bl s' a).bind λs'=>steps T bl s' b;cases e:step T bl s m with
  | none=>rfl
  | some s'=>show bX
def c7(h:step T bl s m=!s')(l:m.2<s.tr.length):
  (m.1=6/\∃x c,T[s.came]?=!x/\s.tr[m.2]?=!c/\s'={s.tr.set m.2 (c++[x]),s.left,s.came+1}) \/
  (m.1=5/\bl=6/\∃x c,s.tr[m.2]?=!(c++[x])/\s'={s.tr.set m.2 c,s.left++[x],s.came}) \/
  (m.1=5/\bl=5/\∃x c,s.tr[m.2]?=!(x::c)/\s'={s.tr.set m.2 c,s.left++[x],s.came}):=by
 let(c,hc):∃c,s.tr[m.2]?=some c:=⟨_,li l⟩;have j:s.tr.getD m.2 []=c:=by rw[oa,hc];rfl
 unfold step at h;rw[j]at h
 split at h
 ·rename_i d
  split at h
  ·rename_i x e
   cases h;show .inl ⟨d,x,c,e,hc,9⟩
  ·cases h
 ·rename_i d
  have a:m.1=5:=by simpa using d
  split at h
  ·rename_i f
   split at h
   ·rename_i x e
    cases h;show .inr (.inl {a,f,x,c.dropLast,?_,9});rw[hc];congr 1;have b:c≠[]:=λz=>by rw[z]at e;cases e
    have:=Kk b;rw[Kh b]at e;rw[<- vb e];show this.symm
   ·cases h
  ·rename_i f
   have i:bl=5:=by simpa using f
   split at h
   ·rename_i x r
    cases h;show .inr (.inr {a,i,_,_,hc,9})
   ·cases h
def sj{b:7 (7 3)}{j:4}{c c':7 3}(h:b[j]?=!c):((b.set j c').map Km).sum+c.length=(b.map Km).sum+c'.length:=by
 induction b generalizing j with
 | nil=>simp at h
 | cons a r d=>
  cases j with
  | zero=>
   have e:a=c:=by simpa using h
   subst e;simp only[P0,KH,Pu];omega
  | succ j=>
   have h':r[j]?=!c:=by simpa using h
   have:=d h';simp only[P1,KH,Pu];omega
def vo{l:7 4}{x:4}(h:x∈l):x<=l.sum:=by
 induction l with
 | nil=>cases h
 | cons a r b=>
  rw[Pu];let 9||z:=Jb.mp h
  ·omega
  ·have:=b z;omega
def dz{T:7 3}{bl:Bool}:∀{s st:St} {ms:7 Mv},steps T bl s ms=!st->(∀m∈ms,m.2<s.tr.length)->s.left.length+(s.tr.map Km).sum=s.came->st.left.length+(st.tr.map Km).sum=st.came
 | s,st,[],h,_,hc=>by
  have e:s=st:=by simpa[steps] using h
  rw[<- e];show hc
 | s,st,m::r,h,b,hc=>by
  let(s',a,d):=cD h;have f:=du a;show dz d (λj i=>by rw[f];show b j (wh _ i)) ?_;let(_,x,c,_,e,9)||(_,_,x,c,e,9)||(_,_,x,c,e,9):=c7 a (b m vr)
  ·have:=sj (c':=c++[x]) e
   simp only[sB,vl,Jo]at this ⊢;omega
  ·have:=sj (c':=c) e
   simp only[sB,vl,Jo]at this ⊢;omega
  ·have:=sj (c':=c) e
   simp only[sB,vl,Jo]at this ⊢;omega
def hZ(n:4):(init n).left.length+((init n).tr.map Km).sum=(init n).came:=by
 show 0+((ra n ([]:7 3)).map Km).sum=0;rw[Nd];simp
structure CY(T:7 3)(st:St):Prop where
 came:st.came=T.length
 empty:∀(j:4) c,st.tr[j]?=!c->c=[]
def lX{T:7 3}{bl:Bool}{n:4}{st:St}{ms:7 Mv}(h:steps T bl (init n) ms=!st)(d:∀m∈ms,m.2<n)(o:st.left.length=T.length):CY T st:=by
 have f:=dz h (λm a=>by show m.2<(ra n ([]:7 3)).length;rw[zg];show d m a) (hZ n);have i:=lh h (Jd _);show {(),λj c e=>?_};have l:c.length<=(st.tr.map Km).sum:=by
  have a:c.length∈st.tr.map Km:=Li.mpr {c,xA e,9};show vo a
 have b:c.length=0:=()
 show KO.mp b
def vp:∀{s st:St} {ms:7 Mv} {j:4} {c:7 3} {a:3},steps T bl s ms=!st->(∀m∈ms,m.2<s.tr.length)->CY T st->s.tr[j]?=!c->a∈c->∃w,st.left=s.left++w/\a∈w
 | s,st,[],j,c,a,h,_,D,hc,f=>by
  have e:s=st:=by simpa[steps] using h
  rw[e]at hc;rw[D.empty j c hc]at f;cases f
 | s,st,m::r,j,c,a,h,A,D,hc,f=>by
  let(s',o,y):=cD h;have H:=du o;have u:∀v∈r,v.2<s'.tr.length:=λv I=>by rw[H];show A v (wh _ I)
  let(M,B):=pC o;have go:∀{c':7 3},s'.tr[j]?=!c'->a∈c'->∃w,st.left=s.left++w/\a∈w:=λq p=>by
   let(w,e,hw):=vp y u D q p;show ⟨M++w,by rw[e,B,Ju],xC _ hw⟩
  have l:∀{x:3},s'.left=s.left++[x]->a=x->∃w,st.left=s.left++w/\a∈w:=λ{x} e E=>by
   let(w,C):=qN y;show ⟨[x]++w,by rw[C,e,Ju],by simp[E]⟩
  have t:j<s.tr.length:=(op.mp hc).1;let(_,x,d,_,e,i)||(_,_,x,d,e,i)||(_,_,x,d,e,i):=c7 o (A m vr)
  ·by_cases b:m.2=j
   ·subst b
    rw[hc]at e;cases e;show go (c':=c++[x]) (by rw[i];show Jm t) (JD _ f)
   ·show go (c':=c) (by rw[i];show (s.tr.set m.2 _)[j]?=_;rw[JN b];show hc) f
  ·by_cases b:m.2=j
   ·subst b
    rw[hc]at e;have n:c=d++[x]:=vb e;rw[n]at f;let z||z:=Jc.mp f
    ·show go (c':=d) (by rw[i];show Jm t) z
    ·show l (by rw[i]) (by simpa using z)
   ·show go (c':=c) (by rw[i];show (s.tr.set m.2 _)[j]?=_;rw[JN b];show hc) f
  ·by_cases b:m.2=j
   ·subst b
    rw[hc]at e;have n:c=x::d:=vb e;rw[n]at f;let z||z:=Jb.mp f
    ·show l (by rw[i]) z
    ·show go (c':=d) (by rw[i];show Jm t) z
   ·show go (c':=c) (by rw[i];show (s.tr.set m.2 _)[j]?=_;rw[JN b];show hc) f
def tX:∀{s st:St} {ms:7 Mv} {k:4} {x:3},steps T bl s ms=!st->(∀m∈ms,m.2<s.tr.length)->CY T st->s.came<=k->T[k]?=!x->∃w,st.left=s.left++w/\x∈w
 | s,st,[],k,x,h,_,D,n,i=>by
  have e:s=st:=by simpa[steps] using h
  have:=(op.mp i).1;have:=D.came;rw[<- e]at this;omega
 | s,st,m::r,k,x,h,q,D,n,i=>by
  let(s',l,z):=cD h;have C:=du l;have f:∀t∈r,t.2<s'.tr.length:=λt E=>by rw[C];show q t (wh _ E)
  let(A,u):=pC l;have go:s'.came<=k->∃w,st.left=s.left++w/\x∈w:=λo=>by
   let(w,e,hw):=tX z f D o i;show ⟨A++w,by rw[e,u,Ju],xC _ hw⟩
  let(_,y,d,v,e,b)||(_,_,y,d,e,b)||(_,_,y,d,e,b):=c7 l (q m vr)
  ·by_cases p:k=s.came
   ·subst p
    rw[i]at v;cases v;let(w,B,hw):=vp z f D (j:=m.2) (c:=d++[x]) (a:=x) (by rw[b];show Jm (q m vr)) (xC _ (by simp));show ⟨A++w,by rw[B,u,Ju],xC _ hw⟩
   ·show go (by rw[b];show s.came+1<=k;omega)
  ·show go (by rw[b];show n)
  ·show go (by rw[b];show n)
def Hb:∀{s st:St} {ms:7 Mv} {j:4} {u v w:7 3} {a b:3},steps T bl s ms=!st->(∀m∈ms,m.2<s.tr.length)->CY T st->st.left.Pairwise (· < ·)->s.tr[j]?=!(u++a::v++b::w)->
  if bl=6 then b<a else a<b
 | s,st,[],j,u,v,w,a,b,h,_,D,_,hc=>by
  have e:s=st:=by simpa[steps] using h
  rw[e]at hc;have:=D.empty j _ hc;simp at this
 | s,st,m::r,j,u,v,w,a,b,h,I,D,hp,hc=>by
  let(s',E,H):=cD h;have N:=du E;have q:∀C∈r,C.2<s'.tr.length:=λC c=>by rw[N];show I C (wh _ c)
  have B:j<s.tr.length:=(op.mp hc).1;have stay:∀{u' v' w':7 3},s'.tr[j]?=!(u'++a::v'++b::w')->if bl=6 then b<a else a<b:=λe=>Hb H q D hp e;have other:∀(c':7 3),m.2≠j->(s.tr.set m.2 c')[j]?=!(u++a::v++b::w):=λc' c=>by rw[JN c];show hc
  have i:∀{y z:3} {c':7 3},s'.left=s.left++[y]->s'.tr[j]?=!c'->z∈c'->y<z:=λ{y z c'} e A O=>by
   let(w',M,hw):=vp H q D A O;rw[M,e,Ju,JE]at hp;show (JE.mp hp.2.1).2.2 y (by simp) z hw
  let(_,y,d,Q,e,l)||(_,t,y,d,e,l)||(_,t,y,d,e,l):=c7 E (I m vr)
  ·by_cases c:m.2=j
   ·subst c
    rw[hc]at e;have o:=vb e;show stay (u':=u) (v':=v) (w':=w++[y]) ?_;rw[l];show (s.tr.set m.2 (d++[y]))[m.2]?=_;rw[Jm B,<- o];simp
   ·show stay (by rw[l];show other _ c)
  ·by_cases c:m.2=j
   ·subst c
    rw[hc]at e;have o:=vb e;rw[if_pos t];have f:s'.tr[m.2]?=!d:=by rw[l];show Jm B
    let 9||(w',x,9):=MT w
    ·
     have n:u++a::v=d/\[b]=[y]:=by
      have:(u++a::v)++[b]=d++[y]:=o;show List.append_inj' this 9
     have:y=b:=by simpa using n.2.symm
     subst this;show i (by rw[l]) f (by rw[<- n.1];simp)
    ·have n:u++a::v++b::w'=d:=by
      have:(u++a::v++b::w')++[x]=d++[y]:=by rw[<- o];simp
      show (List.append_inj' this 9).1
     have:=stay (u':=u) (v':=v) (w':=w') (by rw[f,n]);rw[if_pos t]at this;show this
   ·show stay (by rw[l];show other _ c)
  ·by_cases c:m.2=j
   ·subst c
    rw[hc]at e;have o:=vb e;have p:¬ bl=6:=by rw[t];show t7
    rw[if_neg p];have f:s'.tr[m.2]?=!d:=by rw[l];show Jm B
    cases u with
    | nil=>
     have n:a=y/\v++b::w=d:=by simpa using o
     show i (y:=a) (by rw[l,n.1]) f (by rw[<- n.2];simp)
    | cons x u'=>
     have n:x=y/\u'++a::v++b::w=d:=by simpa using o
     have:=stay (u':=u') (v':=v) (w':=w) (by rw[f,n.2]);rw[if_neg p]at this;show this
   ·show stay (by rw[l];show other _ c)
def cm(ms:7 Mv):7 4:=(ms.filter (·.1)).map (·.2)
def c8(a b:7 Mv):cm (a++b)=cm a++cm b:=by unfold cm;rw[NH,v0]
def Ei(t:4):cm [(6,t)]=[t]:=9
def sr(t:4):cm [(5,t)]=[]:=9
structure jd(T:7 3)(p:7 Mv)(s:St):Prop where
 came:s.came=(cm p).length
 at_:∀(i:4) (a:3) (t:4),T[i]?=!a->(cm p)[i]?=!t->a∈s.left\/∃c,s.tr[t]?=!c/\a∈c
def nK(T:7 3)(n:4):jd T [] (init n):={9,λi a t _ h=>by simp[cm]at h}
def jd.step(P:jd T p s)(h:step T bl s m=!s')(H:m.2<s.tr.length):jd T (p++[m]) s':=by
 let(M,B):=m;have j:∀{c c':7 3} {l:7 3},s.tr[B]?=!c->(∀a∈c,a∈c'\/a∈l)->(∀a∈s.left,a∈l)->∀(a:3) (t:4),(a∈s.left\/∃c,s.tr[t]?=!c/\a∈c)->a∈l\/∃d,(s.tr.set B c')[t]?=!d/\a∈d:=λ{c c' l} hc C hl a t b=>by
  let b||(d,D,b):=b
  ·show .inl (hl a b)
  ·by_cases e:B=t
   ·subst e
    rw[hc]at D;cases D;let z||z:=C a b
    ·show .inr {c',Jm H,z}
    ·show .inl z
   ·show .inr ⟨d,by rw[JN e];show D,b⟩
 let(y,x,c,hx,hc,9)||(y,_,x,c,hc,9)||(y,_,x,c,hc,9):=c7 h H
 ·have v:M=6:=y
  subst v;show ⟨by rw[c8,Ei,sB];show s.came+1=_;rw[P.came];rfl,λi a t hi u=>?_⟩;rw[c8,Ei]at u;let E||hge:=LH i (cm p).length
  ·rw[KI E]at u
   show j (l:=s.left) hc (λa b=>.inl (JD _ b)) (λa b=>b) a t (P.at_ i a t hi u)
  ·rw[J8 hge]at u
   have O:i-(cm p).length=0:=by
    cases q:i-(cm p).length with
    | zero=>rfl
    | succ n=>rw[q]at u;simp at u
   rw[O]at u;have U:B=t:=by simpa using u
   have Q:i=s.came:=by rw[P.came];omega
   have I:T[s.came]?=!x:=hx;rw[Q,I]at hi;cases hi;subst U;show .inr {_,Jm H,xC _ (Jj.mpr 9)}
 ·have v:M=5:=y
  subst v;show ⟨by rw[c8,sr,Kb];show P.came,λi a t hi u=>?_⟩;rw[c8,sr,Kb]at u;show j (l:=s.left++[x]) hc (λa b=>?_) (λa b=>JD _ b) a t (P.at_ i a t hi u);let z||z:=Jc.mp b
  ·show .inl z
  ·show .inr (xC _ z)
 ·have v:M=5:=y
  subst v;show ⟨by rw[c8,sr,Kb];show P.came,λi a t hi u=>?_⟩;rw[c8,sr,Kb]at u;show j (l:=s.left++[x]) hc (λa b=>?_) (λa b=>JD _ b) a t (P.at_ i a t hi u);let z||z:=Jb.mp b
  ·show .inr (by rw[z];simp)
  ·show .inl z
def jd.steps:∀{p q:7 Mv} {s st:St},jd T p s->steps T bl s q=!st->(∀m∈q,m.2<s.tr.length)->jd T (p++q) st
 | p,[],s,st,P,h,_=>by
  have e:s=st:=by simpa[Yd.steps] using h
  rw[Kb,<- e];show P
 | p,m::q,s,st,P,h,b=>by
  let(s',a,i):=cD h;have:=jd.steps (P.step a (b m vr)) i (λn j=>by rw[du a];show b n (wh _ j));rw[Ju]at this;show this
def pD:∀{ms:7 Mv} {j t:4},(cm ms)[j]?=!t->∃p q,ms=p++(6,t)::q/\(cm p).length=j
 | [],j,t,h=>by simp[cm]at h
 | (true,t')::r,j,t,h=>by
  have e:cm ((6,t')::r)=t'::cm r:=9;rw[e]at h;cases j with
  | zero=>
   have:t'=t:=by simpa using h
   subst this;show {[],r,9,9}
  | succ j=>
   let(p,q,a,b):=pD (ms:=r) (j:=j) (t:=t) (by simpa using h);show ⟨(6,t')::p,q,by rw[a];rfl,by show (t'::cm p).length=_;rw[vl,b]⟩
 | (false,t')::r,j,t,h=>by
  have e:cm ((5,t')::r)=cm r:=9;rw[e]at h;let(p,q,a,b):=pD (ms:=r) (j:=j) (t:=t) h;show ⟨(5,t')::p,q,by rw[a];rfl,b⟩
structure cE(T:7 3)(bl:Bool)(n:4)(ms:7 Mv):Prop where
 valid:∀m∈ms,m.2<n
 ex:∃st,steps T bl (init n) ms=!st/\st.left.length=T.length/\st.left.Pairwise (· < ·)
def cE.cm_len(B:cE T bl n ms):(cm ms).length=T.length:=by
 let(st,h,a,hp):=B.ex;have e:∀m∈ms,m.2<(init n).tr.length:=λm b=>by show m.2<(ra n ([]:7 3)).length;rw[zg];show B.valid m b
 have P:=(nK T n).steps h e;rw[NC]at P;rw[<- P.came,(lX h B.valid a).came]
def cE.cm_lt{T:7 3}{bl:Bool}{n:4}{ms:7 Mv}(B:cE T bl n ms){i t:4}(h:(cm ms)[i]?=!t):t<n:=by
 have b:t∈cm ms:=xA h;unfold cm at b;let(m,a,9):=Li.mp b;show B.valid m (OG.mp a).1
def cE.two{T:7 3}{bl:Bool}{n:4}{ms:7 Mv}(B:cE T bl n ms){i j t:4}{a b:3}(ac:i<j)(hi:T[i]?=!a)(hj:T[j]?=!b)(ci:(cm ms)[i]?=!t)(cj:(cm ms)[j]?=!t):
  (if bl=6 then b<a else a<b)\/∀k x,j<=k->T[k]?=!x->a<x:=by
 let(st,h,hl,hp):=B.ex;have D:=lX h B.valid hl;let(p,q,9,U):=pD cj;have ab:∀m∈p,m.2<(init n).tr.length:=λm H=>by show m.2<(ra n ([]:7 3)).length;rw[zg];show B.valid m (JD _ H)
 rw[bX]at h;cases e:steps T bl (init n) p with
 | none=>rw[e]at h;cases h
 | some s=>
  rw[e]at h;have h':steps T bl s ((6,t)::q)=!st:=h;have P:=(nK T n).steps e ab;rw[NC]at P;have E:s.tr.length=n:=by rw[mV e];show (ra n ([]:7 3)).length=n;rw[zg]
  have y:∀m∈(6,t)::q,m.2<s.tr.length:=λm H=>by rw[E];show B.valid m (xC _ H)
  have O:(cm p)[i]?=!t:=by
   rw[c8,KI ()]at ci;show ci
  let Q||(c,hc,Q):=P.at_ i a t hi O
  ·right
   intro k x hk M;let(w,ew,hw):=tX h' y D (k:=k) (x:=x) (by rw[P.came];omega) M;rw[ew,JE]at hp;show hp.2.2 a Q x hw
  ·left
   let(s',h1,h2):=cD h';have I:=y (6,t) vr;let(_,x,d,M,hd,es)||(z,_)||(z,_):=c7 h1 I
   ·have C:s.tr[t]?=!d:=hd
    rw[hc]at C;cases C;rw[P.came,U,hj]at M;cases M;let(u,v,9):=List.append_of_mem Q;show Hb (j:=t) (u:=u) (v:=v) (w:=[]) h2 (λm H=>by rw[du h1];show y m (wh _ H)) D hp ?_;rw[es];show Jm I
   ·cases z
   ·cases z
def cE.odds{T:7 3}{n:4}{ms:7 Mv}(B:cE T 6 n ms){i j k t:4}{a b x:3}(e:i<j)(v:j<k)(hi:T[i]?=!a)(u:T[j]?=!b)(y:T[k]?=!x)(z:x<a)(C:a<b)(q:(cm ms)[i]?=!t)(s:(cm ms)[j]?=!t):False:=by
 let h||h:=B.two e hi u q s
 ·have:b<a:=by simpa using h
  omega
 ·have:=h k x () y
  omega
def cE.track{T:7 3}{bl:Bool}{n:4}{ms:7 Mv}(B:cE T bl n ms){i:4}(h:i<T.length):∃t,(cm ms)[i]?=!t/\t<n:=by
 have a:=B.cm_len;have:i<(cm ms).length:=()
 show {_,li this,B.cm_lt (li this)}
def AX{c:4->4}{m:4}(b:∀k,k<m->c k<2)(i:∀k,k<m->c k≠c ((k+1)%m))(j:m%2=1)(p:1<m):False:=by
 have f:∀k,k<m->c k=(c 0+k)%2:=by
  intro k
  induction k with
  | zero=>intro h;have:=b 0 h;omega
  | succ k l=>
   intro h;have e:=l ();have d:=i k ();rw[M6 h]at d;have n:=b k ();have o:=b (k+1) h;omega
 have e:=f (m-1) ();have d:=i (m-1) ();rw[show m-1+1=m by omega,OA]at d;have a:=b 0 ();omega
def AY(T:7 3)(p q r:4):Prop:=min p q<max p q/\max p q<r/\r<T.length/\T.getD r 0<T.getD (min p q) 0/\T.getD (min p q) 0<T.getD (max p q) 0
def cE.no_odd{T:7 3}{ms:7 Mv}(B:cE T 6 2 ms){ps sh:4->4}{m:4}(n:m%2=1)(D:1<m)(h:∀k,k<m->AY T (ps k) (ps ((k+1)%m)) (sh k)):False:=by
 have s:∀k,k<m->ps k<T.length:=λk i=>by
  let(a,b,c,_):=h k i;omega
 show AX (c:=λk=>(cm ms).getD (ps k) 0) (m:=m) (λk i=>?_) (λk i z=>?_) n D
 ·let(t,j,E):=B.track (s k i)
  show (cm ms).getD (ps k) 0<2;rw[oa,j];show E
 ·let(a,b,c,d,e):=h k i
  have u:(k+1)%m<m:=mod_lt _ ();let(t,j,_):=B.track (s k i);let(t',q,_):=B.track (s _ u);have v:(cm ms).getD (ps k) 0=(cm ms).getD (ps ((k+1)%m)) 0:=z;rw[oa,oa,j,q]at v;have z2:t=t':=v;subst z2;have g:∀p,p<T.length->T[p]?=!T.getD p 0:=λp hp=>by rw[oa,li hp];rfl
  have y:(cm ms)[min (ps k) (ps ((k+1)%m))]?=!t:=by
   let z||z:=Nat.le_total (ps k) (ps ((k+1)%m))
   ·rw[Mp z];show j
   ·rw[LO z];show q
  have C:(cm ms)[max (ps k) (ps ((k+1)%m))]?=!t:=by
   let z||z:=Nat.le_total (ps k) (ps ((k+1)%m))
   ·rw[Oc z];show q
   ·rw[OJ z];show j
  show B.odds a b (g _ ()) (g _ ()) (g _ c) d e y C
def St.map(f:3->3)(s:St):St:={s.tr.map (KY f),s.left.map f,s.came}
def AZ(f:3->3)(s:St)(m:Mv):step (T.map f) bl (s.map f) m=(step T bl s m).map (St.map f):=by
 have a:(s.tr.map (KY f)).getD m.2 []=(s.tr.getD m.2 []).map f:=by
  rw[oa,oa,r6];cases s.tr[m.2]?<;>rfl
 unfold step;show (if m.1=6 then _ else _)=_
 split
 ·show (match (T.map f)[s.came]? with | some x=>_ | none=>_)=_
  rw[r6];cases T[s.came]? with
  | none=>rfl
  | some x=>
   show some (St.mk ((s.tr.map (KY f)).set m.2 ((s.tr.map (KY f)).getD m.2 []++[f x])) (s.left.map f) (s.came+1))=!(St.map f {s.tr.set m.2 (s.tr.getD m.2 []++[x]),s.left,s.came+1});unfold St.map;rw[a,Ma,v0];rfl
 ·split
  ·show (match ((s.tr.map (KY f)).getD m.2 []).getLast? with | some x=>_ | none=>_)=_
   rw[a,NT];cases (s.tr.getD m.2 []).getLast? with
   | none=>rfl
   | some x=>
    show some (St.mk ((s.tr.map (KY f)).set m.2 ((s.tr.map (KY f)).getD m.2 []).dropLast) (s.left.map f++[f x]) s.came)=!(St.map f {s.tr.set m.2 (s.tr.getD m.2 []).dropLast,s.left++[x],s.came});unfold St.map;rw[a,Ma,v0,MI];rfl
  ·show (match (s.tr.map (KY f)).getD m.2 [] with | x::r=>_ | []=>_)=_
   rw[a];cases s.tr.getD m.2 [] with
   | nil=>rfl
   | cons x r=>
    show some (St.mk ((s.tr.map (KY f)).set m.2 (r.map f)) (s.left.map f++[f x]) s.came)=!(St.map f {s.tr.set m.2 r,s.left++[x],s.came});unfold St.map;rw[Ma,v0];rfl
def qO(f:3->3):∀(s:St) (ms:7 Mv),steps (T.map f) bl (s.map f) ms=(steps T bl s ms).map (St.map f)
 | s,[]=>rfl
 | s,m::r=>by
  show (step (T.map f) bl (s.map f) m).bind (λs'=>steps (T.map f) bl s' r)=((step T bl s m).bind λs'=>steps T bl s' r).map (St.map f);rw[AZ];cases step T bl s m with
  | none=>rfl
  | some s'=>show qO f s' r
def A0(f:3->3)(n:4):(init n).map f=init n:=by
 unfold init St.map;rw[Nd];rfl
def dB:∀{l m:7 3},l.Nodup->(∀x∈l,x∈m)->m.length<=l.length->m.Perm l
 | [],m,_,_,h=>by
  have:m=[]:=KO.mp (by simpa using h);rw[this]
 | a::r,m,i,hs,h=>by
  have d:a∈m:=hs a vr;have b:=Ls.mp i;have j:m.Perm (a::m.erase a):=List.perm_cons_erase d;have f:(m.erase a).length<=r.length:=by
   rw[List.length_erase_of_mem d];simp only[vl]at h;omega
  have n:=dB (m:=m.erase a) b.2 (λx e=>by
   have c:x≠a:=λz=>b.1 (z▸e);show (List.mem_erase_of_ne c).mpr (hs x (wh _ e))) f
  show j.trans (List.Perm.cons a n)
def R(n:4):7 3:=(IZ n).map λ(i:Nat)=>(i:3)
def kI(n:4):(R n).length=n:=by unfold R;rw[lj,Jv]
def A1(h:i<n):(R n)[i]?=!(i:3):=by
 unfold R;rw[r6,LI h];rfl
def Hc(n:4):(R n).Pairwise (· < ·):=by
 unfold R;rw[MJ];show MK (λh=>()) OB
def oM(n:4):(R n).Nodup:=MK (λh=>Int.ne_of_lt h) (Hc n)
def Hd(h:x∈R n):0<=x/\x<n:=by
 unfold R at h;let(i,hi,9):=Li.mp h;have:=J9.mp hi;omega
def tZ:∀{c:7 3} {s:St} {j:4},s.tr[j]?=!c->steps T 6 s (ra c.length (5,j))=some {s.tr.set j [],s.left++c.reverse,s.came}:=by
 intro c;generalize b:c.length=n
 induction n generalizing c with
 | zero=>
  intro s j h;have:c=[]:=KO.mp b;subst this;have d:=(op.mp h);show some s=_;rw[List.reverse_nil,Kb];have e:s.tr.set j []=s.tr:=by
   show KQ λi=>?_
   by_cases hi:j=i
   ·subst hi
    rw[Jm d.1,h]
   ·rw[JN hi]
  rw[e]
 | succ n o=>
  intro s j h;have a:c≠[]:=λz=>by rw[z]at b;cases b
  have f:=Kk a;have d:=(op.mp h).1;have hs:step T 6 s (5,j)=some {s.tr.set j c.dropLast,s.left++[c.getLast a],s.came}:=by
   unfold step;rw[if_neg t7,if_pos 9];have l:s.tr.getD j []=c:=by rw[oa,h];rfl
   simp only[l];rw[Kh a]
  rw[JW];show (step T 6 s (5,j)).bind (λs'=>steps T 6 s' (ra n (5,j)))=_;rw[hs];show steps T 6 _ _=_;rw[o (c:=c.dropLast) (by rw[L8,b];rfl) (j:=j) (s:={s.tr.set j c.dropLast,s.left++[c.getLast a],s.came}) (Jm d)];show some (St.mk ((s.tr.set j c.dropLast).set j []) (s.left++[c.getLast a]++c.dropLast.reverse) s.came)=_;rw[List.set_set,Ju];congr 03
  conv=>rhs;rw[<- f]
  rw[Ln];rfl
def kJ:∀{c:7 3} {s:St} {j:4},s.tr[j]?=!c->steps T 5 s (ra c.length (5,j))=some {s.tr.set j [],s.left++c,s.came}
 | [],s,j,h=>by
  have a:=(op.mp h);show some s=_;rw[Kb];have e:s.tr.set j []=s.tr:=by
   show KQ λi=>?_
   by_cases hi:j=i
   ·subst hi
    rw[Jm a.1,h]
   ·rw[JN hi]
  rw[e]
 | x::c,s,j,h=>by
  have a:=(op.mp h).1;have hs:step T 5 s (5,j)=some {s.tr.set j c,s.left++[x],s.came}:=by
   unfold step;rw[if_neg t7,if_neg t7];have b:s.tr.getD j []=x::c:=by rw[oa,h];rfl
   simp only[b]
  rw[vl,JW];show (step T 5 s (5,j)).bind (λs'=>steps T 5 s' (ra c.length (5,j)))=_;rw[hs];show steps T 5 _ _=_;rw[kJ (c:=c) (j:=j) (s:={s.tr.set j c,s.left++[x],s.came}) (Jm a)];show some (St.mk ((s.tr.set j c).set j []) (s.left++[x]++c) s.came)=_;rw[List.set_set,Ju];rfl
def clear(h:s.tr[j]?=!c):steps T bl s (ra c.length (5,j))=some {s.tr.set j [],s.left++(if bl=6 then c.reverse else c),s.came}:=by
 cases bl with
 | true=>show tZ h
 | false=>show kJ h
def je(d:steps T bl s a=!s')(e:steps T bl s' b=!c):steps T bl s (a++b)=!c:=by
 rw[bX,d];show e
def yY{st:St}(h:steps (R n) bl (init k) ms=!st)(b:∀m∈ms,m.2<k)(a:st.left.length=n):st.left.Perm (R n):=by
 have D:=lX h b (by rw[a,kI]);show dB (oM n) (λx f=>?_) (by rw[kI,a];show oN _);let(i,hi,e):=L9.mp f;let(w,c,hw):=tX h (λm d=>by show m.2<(ra k ([]:7 3)).length;rw[zg];show b m d) D (k:=i) (x:=x) (Jd _) (by rw[li hi,e]);rw[c];show xC _ hw
def A2(n:4):((ra n ([]:7 3)).map Km).sum=0:=by
 rw[Nd];simp
def CZ{a:7 (7 3)}{j:4}(h:j<a.length):(ra j ([]:7 3)++a.drop j).set j []=ra (j+1) []++a.drop (j+1):=by
 rw[List.set_append_right _ _ (by rw[zg];show oN _),zg,Ob,K3 h,P0,LJ,Ju];rfl
def t8{st:St}(h:steps (R n) bl (init k) ms=!st)(d:∀m∈ms,m.2<k)(c:st.left.length=n)(q:T.length=n)
  (b:∀(j:4) (x:3),st.left[j]?=!x->T[x.toNat]?=!(j:3)):cE T bl k ms/\T.Perm (R n):=by
 have D:=lX h d (by rw[c,kI]);have all:∀x∈R n,x∈st.left:=λx a=>by
  let(i,hi,e):=L9.mp a;let(w,p,hw):=tX h (λm s=>by show m.2<(ra k ([]:7 3)).length;rw[zg];show d m s) D (k:=i) (x:=x) (Jd _) (by rw[li hi,e]);rw[p];show xC _ hw
 have hp:st.left.Perm (R n):=dB (oM n) all (by rw[kI,c];show oN _);have f:(R n).map (λx=>T.getD x.toNat 0)=T:=by
  show KQ λi=>?_;rw[r6]
  by_cases hi:i<n
  ·rw[A1 hi]
   show some (T.getD (i:3).toNat 0)=T[i]?;rw[Ji,oa,li ()];rfl
  ·rw[Jk.mpr (by rw[kI];omega),Jk.mpr ()]
   rfl
 have l:st.left.map (λx=>T.getD x.toNat 0)=R n:=by
  show KQ λj=>?_;rw[r6]
  by_cases r:j<n
  ·let(x,a):∃x,st.left[j]?=some x:=⟨_,li ()⟩
   rw[a,A1 r];show some (T.getD x.toNat 0)=_;rw[oa,b j x a];rfl
  ·rw[Jk.mpr (),Jk.mpr (by rw[kI];omega)]
   rfl
 have o:=qO (T:=R n) (bl:=bl) (λx=>T.getD x.toNat 0) (init k) ms;rw[h,A0,f]at o;show {{d,st.map _,o,?_,?_},?_}
 ·show (st.left.map _).length=T.length
  rw[lj,c,q]
 ·show (st.left.map _).Pairwise _
  rw[l];show Hc n
 ·have:=hp.map (λx=>T.getD x.toNat 0)
  rw[f,l]at this;show this.symm
end Yd
namespace My
open PySem L2
open PySem.W (Dat)
abbrev Gm:=xD×3
def sY(n:4)(g:Gm):Option Yd.Mv:=if 0<=g.2/\g.2<n then (if g.1=rd "in" then some (6,g.2.toNat) else if g.1=rd "out" then some (5,g.2.toNat) else 8) else 8
def aU(T:7 3)(b:Bool)(n:4)(s:Yd.St)(g:Gm):Option Yd.St:=(sY n g).bind λm=>Yd.step T b s m
def aM(T:7 3)(b:Bool)(n:4):Yd.St->7 Gm->Option Yd.St
 | s,[]=>!s
 | s,g::r=>(aU T b n s g).bind λs'=>aM T b n s' r
def fV:∀{s:Yd.St} {x y:7 Gm},aM T b n s (x++y)=(aM T b n s x).bind λs'=>aM T b n s' y
 | s,[],y=>rfl
 | s,g::x,y=>by
  show (aU T b n s g).bind (λs'=>aM T b n s' (x++y))=((aU T b n s g).bind λs'=>aM T b n s' x).bind λs'=>aM T b n s' y;cases e:aU T b n s g with
  | none=>rfl
  | some s'=>show fV
def jf{T:7 3}{b:Bool}{n:4}{s s' a:Yd.St}{gs:7 Gm}{i:4}{g:Gm}(h:aM T b n s (gs.take i)=!s')(d:gs[i]?=!g)(c:aU T b n s' g=!a):aM T b n s (gs.take (i+1))=!a:=by
 rw[aP d,fV,h];show (aU T b n s' g).bind (λs=>!s)=_;rw[c];rfl
def su(h:aM T b n s (gs.take i)=!s')(c:gs[i]?=!g)(a:aU T b n s' g=8):aM T b n s gs=8:=by
 have hi:=(op.mp c);have e:gs=gs.take i++g::gs.drop (i+1):=by
  conv=>lhs;rw[<- K1 i gs]
  rw[K3 hi.1,hi.2]
 rw[e,fV,h];show (aU T b n s' g).bind _=8;rw[a];rfl
def yZ(h:aU T b n s g=!s'):s'.tr.length=s.tr.length:=by
 unfold aU at h;cases e:sY n g with
 | none=>rw[e]at h;cases h
 | some m=>rw[e]at h;show Yd.du h
def pE:∀{s s':Yd.St} {gs:7 Gm},aM T b n s gs=!s'->s'.tr.length=s.tr.length
 | s,s',[],h=>by
  have e:s=s':=by simpa[aM] using h
  rw[e]
 | s,s',g::r,h=>by
  have a:(aU T b n s g).bind (λc=>aM T b n c r)=!s':=h;cases e:aU T b n s g with
  | none=>rw[e]at a;cases a
  | some d=>rw[e]at a;rw[pE a,yZ e]
def A3(h:sY n g=!m):m.2<n:=by
 unfold sY at h
 split at h
 ·rename_i hr
  split at h
  ·cases h;show g.2.toNat<n;omega
  ·split at h
   ·cases h;show g.2.toNat<n;omega
   ·cases h
 ·cases h
def ic:∀{s s':Yd.St} {gs:7 Gm},aM T b n s gs=!s'->∃ms,Yd.steps T b s ms=!s'/\(∀m∈ms,m.2<n)/\ms.length=gs.length
 | s,s',[],h=>⟨[],h,λm l=>by (cases l),9⟩
 | s,s',g::r,h=>by
  have c:(aU T b n s g).bind (λa=>aM T b n a r)=!s':=h;cases e:aU T b n s g with
  | none=>rw[e]at c;cases c
  | some p=>
   rw[e]at c;let(ms,f,i,j):=ic c;unfold aU at e;cases d:sY n g with
   | none=>rw[d]at e;cases e
   | some m=>
    rw[d]at e;show ⟨m::ms,?_,λx o=>?_,by rw[vl,vl,j]⟩
    ·show (Yd.step T b s m).bind (λa=>Yd.steps T b a ms)=!s'
     rw[show Yd.step T b s m=some p from e];show f
    ·let 9||z:=Jb.mp o
     ·show A3 d
     ·show i x z
def za(m:Yd.Mv):Gm:=(sg m.1,(m.2:3))
def Fw(h:m.2<n):sY n (za m)=!m:=by
 let(b,a):=m;unfold sY za;rw[if_pos ⟨by show (0:3)<=(a:3);omega,by show (a:3)<n;have h':a<n:=h;omega⟩];cases b with
 | true=>
  rw[if_pos (show sg 6=rd "in" from 9)];show some (6,(a:3).toNat)=_;rw[Ji]
 | false=>
  rw[if_neg (show ¬ sg 5=rd "in" from by decide +kernel),if_pos (show sg 5=rd "out" from 9)];show some (5,(a:3).toNat)=_;rw[Ji]
def jZ:∀{s:Yd.St} {ms:7 Yd.Mv},(∀m∈ms,m.2<n)->aM T b n s (ms.map za)=Yd.steps T b s ms
 | s,[],_=>rfl
 | s,m::r,h=>by
  show (aU T b n s (za m)).bind (λs'=>aM T b n s' (r.map za))=(Yd.step T b s m).bind λs'=>Yd.steps T b s' r;unfold aU;rw[Fw (h m vr)];show (Yd.step T b s m).bind _=_;cases Yd.step T b s m with
  | none=>rfl
  | some s'=>show jZ λx a=>h x (wh _ a)
def uO(H:Hp)(r:mu)(g:Gm):Prop:=H r=!.tup [.str g.1,.int g.2]
def ay(H:Hp)(a:mu)(gs:7 Gm):Prop:=∃b:7 mu,H a=!.lst (b.map V.ref)/\Paired (uO H) b gs
def uO.same(s:ag H a)(h:uO H r g):uO a r g:=s _ _ h
def ay.same(s:ag H b)(h:ay H a gs):ay b a gs:=
 let ⟨i,e,p⟩:=h;{i,s _ _ e,Paired.imp (λ_ _ z=>z.same s) p}
def cw.g(h:cw H a ms):ay H a (ms.map za):=by
 let(i,e,p):=h;show {i,e,?_};clear e
 induction p with
 | nil=>show .nil
 | cons h t b=>show .cons h b
def dG(g:Gm):Dat:=.tuple [.str g.1,.int g.2]
def bw(m:3):3->7 3->Bool
 | _,[]=>6
 | last,p::r=>decide (last<p)&&decide (p<m)&&bw m p r
def jg:∀{last:3} {ps:7 3},bw m last ps=6↔(last::ps).Pairwise (· < ·)/\∀p∈ps,p<m
 | last,[]=>by simp[bw]
 | last,p::r=>by
  unfold bw;rw[Jf,Jf,decide_eq_true_iff,decide_eq_true_iff,jg (last:=p) (ps:=r)]
  constructor
  ·rintro ⟨⟨d,c⟩,a,e⟩
   show {?_,λq b=>?_}
   ·rw[JJ]
    show {λq b=>?_,a};let 9||z:=Jb.mp b
    ·show d
    ·have:=(JJ.mp a).1 q z;omega
   ·let 9||z:=Jb.mp b
    ·show c
    ·show e q z
  ·rintro ⟨d,c⟩
   have a:=JJ.mp d;show {{a.1 p vr,c p vr},a.2,λq b=>c q (wh _ b)}
def pF(h:bw m last (ps.take i)=6)(hp:ps[i]?=!p):bw m last ps=(decide (((ps.take i).getLast?.getD last)<p)&&decide (p<m)&&bw m p (ps.drop (i+1))):=by
 induction ps generalizing last i with
 | nil=>simp at hp
 | cons q r b=>
  cases i with
  | zero=>
   have:q=p:=by simpa using hp
   subst this;rfl
  | succ i=>
   rw[Pj]at h;unfold bw at h;rw[Jf]at h;have hr:=b (last:=q) (i:=i) h.2 (by simpa using hp)
   conv=>lhs;unfold bw
   rw[h.1,JA,hr,Pj,List.drop_succ_cons];congr 03;cases c:(r.take i) with
   | nil=>rfl
   | cons a l=>
    rw[Oe,Kh (by simp)];rfl
def zb{l:7 3}{i j:4}{a b:3}(hi:l[i]?=!a)(h:l[j]?=!b):((l.set i b).set j a).Perm l:=by
 have c:=op.mp hi;have d:=op.mp h;have e:=Array.swap_perm (xs:=l.toArray) (i:=i) (j:=j) (by simpa using c.1) (by simpa using d.1);have f:=e.toList;have q:(l.toArray.swap i j (by simpa using c.1) (by simpa using d.1)).toList=(l.set i b).set j a:=by
  rw[Array.toList_swap];simp[c.2,d.2]
 rw[q]at f;show f
end My
namespace L2
open PySem PySem.Spec PyProof.Rows
section
variable {X:Cx} {K:PySem.W.Frag}
inductive wQ  (xs:7 V) (H:Hp) (Q:VK):Prop
 | mk (i j:3):(xs=[.int j]/\i=0\/xs=[.int i,.int j])->(∀r,H r=8->Q (.ref r) (upd H r (.rng i j)))->wQ  xs H Q
def nL:bq X (.type "range") wQ:=by
 intro d s σ H xs us Q I r h;let(i,j,e,q):=h;let(9,9)||9:=e
 ·let(u,9,a):=gj r
  let(t,9):=a;show call_range_1 {.ref ↑s,_,I.laid (o:=.rng 0 j) (λb o e=>pu _ e) (oN _) {_,_,_,y8 _ 9},9,q _ (I.hok.fresh (oN _))}
 ·let(u,w',9,a,c):=tI r
  let(t,9):=a;let(t',9):=c;show call_range_2 {.ref ↑s,_,I.laid (o:=.rng i j) (λb o e=>pu _ e) (oN _) {_,_,_,y8 _ 9},9,q _ (I.hok.fresh (oN _))}
def A4(lo hi:3):7 V:=(IZ (hi-lo).toNat).map λ(i:Nat)=>V.int (lo+(i:3))
def qh{lo:3}:∀{n:4} {b:7 n5},b.length=n->(∀(j:4) (v:n5),b[j]?=!v->∃t,v=.int (lo+(j:3)) t)->az ((IZ n).map λ(i:Nat)=>V.int (lo+(i:3))) b:=by
 intro n b l c;have h:∀(k:4) (b:7 n5),(∀(j:4) (v:n5),b[j]?=!v->∃t,v=.int (lo+((k+j:4):3)) t)->az ((IZ b.length).map λ(i:Nat)=>V.int (lo+((k+i:4):3))) b:=by
  intro k b
  induction b generalizing k with
  | nil=>intro _;show .nil
  | cons a r o=>
   intro c;rw[vl,Oz,KH,map_map];show .cons ?_ ?_
   ·let(t,e):=c 0 a 9
    show ⟨t,by simpa using e⟩
   ·have:=o (k+1) λj v e=>by
     let(t,d):=c (j+1) v (by simpa using e);show ⟨t,by rw[d];congr 2;omega⟩
    have f:(IZ r.length).map (λ(i:Nat)=>V.int (lo+((k+1+i:4):3)))=(IZ r.length).map ((λ(i:Nat)=>V.int (lo+((k+i:4):3)))∘Nat.succ):=by
     show LW λi _=>?_;show V.int _=V.int _;congr 2;omega
    rw[f]at this;show this
 have:=h 0 b λj v e=>by simpa using c j v e
 rw[l]at this
 simpa using this
inductive vq  (xs:7 V) (H:Hp) (Q:VK):Prop
 | mk (r:mu) (lo hi:3):xs=[.ref r]->H r=!.rng lo hi->-1000000<=lo->lo<=1000000->-1000000<=hi->hi<=1000000->(∀l,H l=8->Q (.ref l) (upd H l (.lst (A4 lo hi))))->vq  xs H Q
def vt(hc:X.calm=6):bq X (.type "list") vq:=by
 intro n s σ H xs us Q I r h;let(a,lo,hi,9,hr,B,C,D,E,q):=h;let(u,9,z):=gj r;cases z;let(t,u,v,e):=(show aS X.prog X.w H s.heap a (.rng lo hi) from I.hok a _ hr);have y:Kl lo hi 1=((hi-lo).toNat:3):=by rw[Pp];split<;>omega
 show call_list_range (a:=lo) (b:=hi) (c:=1) (I.ok.hd hc) e (small_one () () () ()) y () λh' A f c' x i d=>?_;have l:az (A4 lo hi) f.toList:=by
  show qh (by rw[JH];show d.1) λj v e=>?_;let(t,p):=d.2 j v (by simpa using e);show ⟨t,by simpa using p⟩
 show {.ref ↑s,_,I.laid (t':=A) (o:=.lst (A4 lo hi)) x (oN _) ⟨?_,f.toList,c',l,by simpa using i⟩,9,q _ (I.hok.fresh (oN _))};rw[l.length,JH,d.1,JU];omega
def t9(a:X.K=K)(hc:X.calm=6):bq X (.type "list") (λxs H Q=>(∃p ys,xs=[.ref p]/\(ak K H p ys\/b9 K H p ys)/\∀l,H l=8->Q (.ref l) (upd H l (.lst ys)))\/vq xs H Q):=by
 subst a;show bq.or lP (vt hc)
def qP:∀{ns:7 3},(∀x∈ns,x.natAbs<2^20)->Qj (ns.map .int)=6/\OK (ns.map .int)=0/\Of (ns.map .int)<=21*ns.length
 | [],_=>⟨9,9,oN _⟩
 | a::r,h=>by
  let(c,d,j):=qP (ns:=r) λx i=>h x (wh _ i);have f:=h a vr;have hw:NZ (.int a)<=20:=by
   unfold NZ
   by_cases e:(a==0)=6
   ·rw[if_pos e];show Jd _
   ·rw[if_neg e]
    have b:a.natAbs≠0:=λz=>e (by simpa using Int.natAbs_eq_zero.mp z);show (Nat.log2_lt b).mpr f
  show {?_,?_,?_}
  ·show (PyData.canLay0 (.int a)&&Qj (r.map .int))=6
   rw[c];rfl
  ·show max (PyData.depth (.int a)) (OK (r.map .int))=0
   rw[d];rfl
  ·show NZ (.int a)+1+Of (r.map .int)<=21*(r.length+1)
   omega
def A5{ns:7 3}(h:∀x∈ns,x.natAbs<2^20)(i:ns.length<=40000):PyData.layable0 (.list (ns.map .int))=6:=by
 let(d,e,f):=qP h;unfold PyData.layable0;have a:PyData.canLay0 (.list (ns.map .int))=6:=d;have b:PyData.depth (.list (ns.map .int))=1:=by
  show OK (ns.map .int)+1=1;rw[e]
 have c:NZ (.list (ns.map .int))<=2^20:=by
  show Of (ns.map .int)<=2^20;omega
 rw[a,b,decide_eq_true c];rfl
inductive A6(K:PySem.W.Frag)(x:V)(vs:7 V)(H:Hp)(Q:VK):Prop
 | mk (l:mu) (ns:7 3) (k:3):x=.ref l->vs=[.int k]->ak K H l (ns.map V.int)->ns.length<=40000->(∀x∈ns,x.natAbs<2^20)->k∈ns->Q (.int (ns.idxOf k:4)) H->A6 K x vs H Q
def A8(b:X.K=K):GR X "list.index" (A6 K):=by
 subst b;intro a s σ H x vs v us Q I n j h;let(l,ns,k,9,9,e,f,c,d,q):=h;cases n;let(u,9,i):=j.one;let(t,9):=i;let(its,r,pl,_):=I.list e;show index_list_ints pl.isList (gU r) (A5 c f) d {.int _,H,I.tok _,{_,9},q}
end
def wR:Js ("range":xD)=!.type "range":=by decide +kernel
def Cb.ty{K:PySem.W.Frag}{C p b:mu}{H:Hp}{fs:7 (xD×V)}(i:Cb K C)(a:nt K C)(e:H p=!.ins C b fs):kd K H (.ref p) (.ref C):=.ins e a i.ha i.hn i.htk i.hm
end L2
namespace My
open PySem L2
open PySem.W (Dat)
def bQ(T:7 3)(b:Bool)(n:4)(gs:7 Gm):Bool:=match aM T b n (Yd.init n) gs with
 | some st=>decide (st.left.length=T.length)&&decide (st.left.Pairwise (· < ·))
 | none=>5
def sv{st:Yd.St}(f:T.Nodup)(h:Yd.steps T b (Yd.init n) ms=!st)(c:∀m∈ms,m.2<n)(a:st.left.length=T.length):st.left.Perm T:=by
 have D:=Yd.lX h c a;show Yd.dB f (λx l=>?_) (by rw[a];show oN _);let(i,hi,e):=L9.mp l;let(w,d,hw):=Yd.tX h (λm j=>by show m.2<(ra n ([]:7 3)).length;rw[zg];show c m j) D (k:=i) (x:=x) (Jd _) (by rw[li hi,e]);rw[d];show xC _ hw
def cf:∀{l m:7 3},l.Pairwise (· <= ·)->m.Pairwise (· <= ·)->l.Perm m->l=m
 | [],m,_,_,h=>by rw[List.nil_perm.mp h]
 | a::l,m,f,i,h=>by
  cases m with
  | nil=>show absurd h.symm.length_eq (by simp)
  | cons b m=>
   have c:=JJ.mp f;have d:=JJ.mp i;have j:a<=b:=by
    let z||z:=Jb.mp (h.mem_iff.mpr (vr (a:=b) (l:=m)))
    ·omega
    ·show c.1 b z
   have n:b<=a:=by
    let z||z:=Jb.mp (h.mem_iff.mp (vr (a:=a) (l:=l)))
    ·omega
    ·show d.1 a z
   have e:a=b:=()
   subst e;rw[cf c.2 d.2 (List.Perm.cons_inv h)]
def zc{l:7 3}(h:l.Pairwise (· <= ·))(c:l.Nodup):l.Pairwise (· < ·):=by
 have:=h.and c;show MK (λ⟨a,b⟩=>()) this
def nM{T ns:7 3}{b:Bool}{n:4}{gs:7 Gm}{st:Yd.St}(a:T.Nodup)(h:aM T b n (Yd.init n) gs=!st)(hp:ns.Perm T)(hs:ns.Pairwise (· <= ·)):(st.left=ns)↔bQ T b n gs=6:=by
 unfold bQ;rw[h];show _↔(decide _&&decide _)=6;rw[Jf,decide_eq_true_iff,decide_eq_true_iff]
 constructor
 ·intro e
  rw[e];show {hp.length_eq,zc hs (hp.nodup_iff.mpr a)}
 ·rintro ⟨f,i⟩
  let(ms,c,d,_):=ic h;show cf (MK (λz=>OC z) i) hs ((sv a c d f).trans hp.symm)
def qQ(h:aM T b n (Yd.init n) gs=8):bQ T b n gs=5:=by
 unfold bQ;rw[h]
def vv(T:7 3)(i j k:3):Bool:=bw T.length (-1) [i,j,k]&&(decide (T.getD k.toNat 0<T.getD i.toNat 0)&&decide (T.getD i.toNat 0<T.getD j.toNat 0))
def ua(C:mu)(H:Hp)(p a:mu)(gs:7 Gm):Prop:=∃b fs,H p=!.ins C b fs/\fs.lookup (rd "moves")=!.ref a/\fs.lookup (rd "shows")=8/\ay H a gs
def He(C:mu)(H:Hp)(p:mu)(i j k:3):Prop:=∃a fs,H p=!.ins C a fs/\fs.lookup (rd "first")=!.int i/\fs.lookup (rd "second")=!.int j/\fs.lookup (rd "third")=!.int k/\fs.lookup (rd "shows")=8
def ua.same(h:ua C H p j gs)(s:ag H e):ua C e p j gs:=let ⟨i,fs,a,b,c,d⟩:=h;{i,fs,s _ _ a,b,c,d.same s}
def wS{c:Prop}{inst:Decidable c}{H:Hp}{Q:VK}(h:¬ c)(q:Q (.bl 5) H):Q (.bl (decide c)) H:=by rw[decide_eq_false h];show q
def sw{c:Prop}{inst:Decidable c}{H:Hp}{Q:VK}(h:c)(q:Q (.bl 6) H):Q (.bl (decide c)) H:=by rw[decide_eq_true h];show q
def jh(T ps:7 3)(k:4):Bool:=decide (T.getD (ps.getD (k+1) 0).toNat 0<T.getD (ps.getD k 0).toNat 0)
def dQ(T ps:7 3):Bool:=bw T.length (-1) ps&&(IZ (ps.length-1)).all (jh T ps)
def lY{T ps:7 3}(h:bw T.length (-1) ps=6):(ps.map Qw).Pairwise (· < ·)/\(∀p∈ps.map Qw,p<T.length)/\∀p∈ps,0<=p/\p<T.length:=by
 rw[jg]at h;let(e,f):=h;have d:=JJ.mp e;have c:∀p∈ps,0<=p/\p<T.length:=λp hp=>⟨by have:=d.1 p hp;omega,f p hp⟩;show {?_,λp hp=>?_,c}
 ·rw[MJ]
  show List.Pairwise.imp_of_mem (λ{a b} i n j=>?_) d.2;have:=c a i;omega
 ·let(q,l,9):=Li.mp hp
  have:=c q l;omega
def A9(C:mu)(H:Hp)(p pA:mu)(ps:7 3):Prop:=∃a fs,H p=!.ins C a fs/\fs.lookup (rd "places")=!.ref pA/\fs.lookup (rd "shows")=8/\H pA=!.lst (ps.map V.int)
def A9.same(h:A9 C H p pA ps)(s:ag H e):A9 C e p pA ps:=let ⟨i,fs,a,b,c,d⟩:=h;{i,fs,s _ _ a,b,c,s _ _ d}
def Ba(T:7 3)(gs:7 Gm)(ps:7 3):Bool:=dQ T ps&&(decide (ps≠[])||decide (T=[]))&&bQ T 5 (max 1 ps.length) gs
def vw(C:mu)(H:Hp)(p a pA:mu)(gs:7 Gm)(ps:7 3):Prop:=∃b fs,H p=!.ins C b fs/\fs.lookup (rd "moves")=!.ref a/\fs.lookup (rd "places")=!.ref pA/\fs.lookup (rd "shows")=8/\ay H a gs/\H pA=!.lst (ps.map V.int)/\a≠pA
def vw.same(h:vw C H p n pA gs ps)(s:ag H i):vw C i p n pA gs ps:=let ⟨j,fs,a,b,c,d,e,f,g⟩:=h;{j,fs,s _ _ a,b,c,d,e.same s,s _ _ f,g}
def pG(O:7 3)(i j k:3):Bool:=bw O.length (-1) [i,j,k]&&(decide (O.getD j.toNat 0<O.getD k.toNat 0)&&decide (O.getD k.toNat 0<O.getD i.toNat 0))
def Fx(n:4):A4 0 (n:3)=(Yd.R n).map V.int:=by
 unfold A4 Yd.R;rw[map_map,show ((n:3)-0).toNat=n by omega];show LW λi _=>?_;show V.int (0+(i:3))=V.int (i:3);rw[LP]
end My
namespace My
open PySem L2 PyProof.Rows
def wT(ps:7 3):7 Bool:=(ps.zip (ps.drop 1)).map λq=>decide (q.1<q.2)
def C0{ns:7 3}{i:4}{x y:3}(a:ns[i]?=!x)(b:(ns.drop 1)[i]?=!y):(wT ns)[i]?=!(decide (x<y)):=by
 unfold wT;rw[r6,K2 (z:=(x,y)) |>.mpr ⟨a,b⟩];rfl
def wU(ns:7 3):(wT ns).length=min ns.length (ns.length-1):=by
 unfold wT;rw[lj,Mi,JM]
def wV:∀{ps:7 3},(wT ps).all id=6↔ps.Pairwise (· < ·)
 | []=>by simp[wT]
 | [a]=>by simp[wT]
 | a::b::r=>by
  have e:wT (a::b::r)=decide (a<b)::wT (b::r):=by unfold wT;simp
  rw[e,Pr,Jf,wV (ps:=b::r)]
  constructor
  ·rintro ⟨c,d⟩
   rw[JJ];have c:a<b:=of_decide_eq_true c;show {λx hx=>?_,d};let 9||hx:=Jb.mp hx
   ·show c
   ·show Int.lt_trans c ((JJ.mp d).1 x hx)
  ·intro h
   let(c,d):=JJ.mp h;show {decide_eq_true (c b vr),d}
def ub(m:3)(ps:7 3):Bool:=ps.all λp=>decide (0<=p)&&decide (p<m)
def ji(m:3)(ps:7 3):bw m (-1) ps=(ub m ps&&(wT ps).all id):=by
 rw[JO,jg,Jf,wV,JJ];unfold ub;rw[Le]
 constructor
 ·rintro ⟨⟨a,b⟩,c⟩
  show {λp hp=>?_,b};have:=a p hp;rw[Jf,decide_eq_true_iff,decide_eq_true_iff];show {(),c p hp}
 ·rintro ⟨a,b⟩
  have h:∀p∈ps,0<=p/\p<m:=λp hp=>by
   have:=a p hp;rw[Jf,decide_eq_true_iff,decide_eq_true_iff]at this;show this
  show ⟨⟨λp hp=>by have:=h p hp;omega,b⟩,λp hp=>(h p hp).2⟩
def ln(h:ub m ps=6)(hp:p∈ps):0<=p/\p<m:=by
 unfold ub at h;have:=Le.mp h p hp;rw[Jf,decide_eq_true_iff,decide_eq_true_iff]at this;show this
def Paired.unmap{e i j:Type}{F:e->j->Prop}{f:i->j}:∀{l:7 e} {m:7 i},Paired F l (m.map f)->Paired (λa b=>F a (f b)) l m
 | _,[],.nil=>.nil
 | _,b::r,.cons h t=>.cons h (Paired.unmap t)
def ay.m{H:L2.Hp}{a:PySem.Addr}{ms:7 Yd.Mv}(h:ay H a (ms.map za)):cw H a ms:=by
 let(b,e,p):=h;show {b,e,Paired.unmap (F:=uO H) (f:=za) p}
def Iw(n:4)(gs:7 Gm):Prop:=∃ms:7 Yd.Mv,gs=ms.map za/\∀m∈ms,m.2<n
end My
namespace PyProof.Rows
open PySem
section
variable {prog:IY} {w:Je} {A:Jq} {E:n5->pe->Prop} {s:pe}
def uc{Q:7 n5->pe->Prop}{r:mu}{a b c:3}{t u v:Tok}{n:4}(O:A.handled=8)(hr:IsRange s.heap r a b c t u v)(h:Nn a b c=6)
  (U:Kl a b c=n) (y:n<=2^24)
  (I:∀h' H d,(∀b o,s.heap.get? b=!o->h'.get? b=!o)->ItemsOf (λi v=>∃t,v=.int (a+i*c) t) d n->Q d.toList { s with heap:=h',toks:=H }):
  wpAny (model prog w) A (collect (.ref r)) Q E s:=by
 unfold collect;show mi
  (wpAny_runValue (Mb F.entry_proto_collect ?_))
 rw[Lj
  F.plain_proto_collect _]
 show wpAny _ A.in1 (newList [] >>= λl=>again (.builtin "list.__iadd__" {[l,.ref r],[]})) _ _ s;show mi (Kq ?_);show ri
  {L6 F.plain_list_iadd _,Mb F.entry_list_iadd ?_}
 rw[Lj
  F.plain_list_iadd _]
 show wpAny _ A.in1 (Kn (.ref ↑s) (.ref r) (.ref ↑s)) _ _ _;have M:(s.heap.push { cls:=.type "list",data:=.seq ([]:7 n5).toArray }).get? ↑s=some { cls:=.type "list",data:=.seq #[] }:=y8 _ 9;have p:∀s',(∃d c',s'.heap.get? ↑s=some { cls:=.type "list",dict:=8,data:=.seq d c',slots:=#[] }/\Q d.toList s')->
   wpAny (model prog w) A (load ↑s >>= λo=>match o.data with
    | .seq xs _=>pure xs.toList
    | _=>unsupported "internal:collect") Q E s':=λs' ⟨d,c',e,q⟩=>mi (wpAny_load e (ri q))
 show Jg (wpAny_extend_range (s:={ s with heap:=s.heap.push { cls:=.type "list",data:=.seq ([]:7 n5).toArray } })
  (R:=λres s'=>res=.ok (.ret (.ref ↑s))/\∃d c',s'.heap.get? ↑s=some { cls:=.type "list",dict:=8,data:=.seq d c',slots:=#[] }/\Q d.toList s')
  O (pu _ hr) h U y ↑s (.ref ↑s) 0 M λh' H j c' T B x=>{9,j,c',B,?_}) (λz s' D=>?_) λe s' N=>?_
 ·show I h' H j (λb o e=>T b o (vu (xE e)) (pu _ e)) x
 ·cases z with
  | done f=>
   let(C,q):=D;cases C;show p s' q
  | again c'=>
   show {D.1,KC D.2 λres s2 q=>?_};let(9,q):=q;show p s2 q
 ·cases N.1
end
end PyProof.Rows
namespace L2
open PySem PySem.Spec PyProof.Rows
def vx(b:4):Prop:=∀{prog:IY} {w:Je} {A:Jq} {E:n5->pe->Prop} {s:pe} {a₀:Array Keyed} {st:SortSt} {Q:Unit->SortSt->Prop},IntKeys a₀->SBase a₀ st->2<=a₀.size->a₀.size<=b->
 (∀a,(arrOf a).Perm a₀->failedOf a=8->SortedTo (arrOf a) a₀.size->Q Jr a)->wpS (model prog w) A E s sortRuns' Q st
section
variable {X:Cx} {pins:7 (mu×Ky)} {σ:St} {H:Hp} {s:pe} {A:Jq} {E:n5->pe->Prop}
def ao.pin_add(I:ao X pins σ H s)(f:cy X pins H a)(e:s.heap.get? a=!o)(b:∀v,o.data≠.cell v):ao X ((a,o)::pins) σ H s:=I.pins_of λp hp=>by
 let 9||hp:=Jb.mp hp
 ·show ⟨e,f.1,f.2.1,f.2.2.1,b⟩
 ·show I.pin p (xC _ hp)
def ao.pin_drop(I:ao X (p::pins) σ H s):ao X pins σ H s:=I.pins_of λq a=>I.pin q (xC _ (wh _ a))
def ao.pin_get(I:ao X pins σ H s)(h:p∈pins):s.heap.get? p.1=!p.2:=(I.pin p (xC _ h)).1
def ao.turn1{t':4}(I:ao X pins σ H s)(f:cy X pins H a)(k:∀b o,b≠a->s.heap.get? b=!o->h'.get? b=!o):ao X pins σ H { s with heap:=h',toks:=t' }:=
 I.turned k f.1 f.2.1 f.2.2.2.1 f.2.2.2.2.1 f.2.2.2.2.2
def Bb{P:PySem.Fin->pe->Prop}
  (I:ao X pins σ H s) (ho:s.heap.get? a=!seqObj "list" vs.toArray n) (D:cy X pins H a) (a7:kz.length=vs.length) (a6:vx aA) (a8:aA<=100000) (hz:vs.length<=aA)
  (aC:∀(i:4) (v:n5) (k:3),vs[i]?=!v->kz[i]?=!k->∀(d:7 (mu×Ky)) (s':pe),(∀p∈pins,p∈d)->ao X d σ H s'->
   wpAny (model X.prog X.w) A (call f [v]) (λu a4=>(∃t,u=.int k t)/\ao X d σ H a4) (λ_ _=>False) s')
  (h:∀s' out e,ao X pins σ H s'->s'.heap.get? a=!seqObj "list" out e->KskOut 5 kz vs out.toList->P (.done (.ret .none)) s'):
  wpAny (model X.prog X.w) A (ksk_tree a f 5) P E s:=by
 have l:∀m,m<=vs.length->m<=sizeLine:=λm hm=>by rw[JU];omega
 unfold ksk_tree;show mi
  (listItems_at ho 9 ?_)
 show mi
  (listUpdate_at ho 9 ?_ (by rw[y9];show l _ (oN _)) (Jd _))
 let(B,an):∃B,(s.heap.update a (JC λ_=>(#[]:Array n5))).get? a=
   some (seqObj "list" #[] B):={_,get?_update_seq ho _}
 have s1:=Lo s.heap a (JC λ_=>(#[]:Array n5));have I1:ao X pins σ H { s with heap:=s.heap.update a (JC λ_=>(#[]:Array n5)) }:=
  I.turn1 (t':=s.toks) D λb o hb e=>(s1.2 b hb).trans e
 show mi
  (seqEpoch_at an 9 ?_)
 show mi
  (O0 ?_ (by show vs.length<=_;show l _ (oN _)))
 show mi
  (N0 ?_ (Jd _))
 show Ki ?_;dsimp only;generalize bb:s.heap.update a (JC λ_=>(#[]:Array n5))=O at*;have I2:ao X pins σ H { s with heap:=O.push (seqObj "tuple" vs.toArray 0) }:=I1.kept (t':=s.toks) λb o e=>pu _ e;have I3:ao X pins σ H { s with heap:=(O.push (seqObj "tuple" vs.toArray 0)).push (seqObj "list" #[] 0) }:=I2.kept (t':=s.toks) λb o e=>pu _ e;have fk:cy X pins H (O.push (seqObj "tuple" vs.toArray 0)).objs.size:=I2.fpOk (oN _) (I2.hok.fresh (oN _));have a0:((O.push (seqObj "tuple" vs.toArray 0)).push (seqObj "list" #[] 0)).get? a=!(seqObj "list" #[] B):=pu _ (pu _ an)
 have a2:((O.push (seqObj "tuple" vs.toArray 0)).push (seqObj "list" #[] 0)).get? (O.push (seqObj "tuple" vs.toArray 0)).objs.size=!(seqObj "list" #[] 0):=y8 _ 9;have ab:a≠(O.push (seqObj "tuple" vs.toArray 0)).objs.size:=λz=>by
  have:=xE (pu (seqObj "tuple" vs.toArray 0) an);rw[z]at this;show Kw _ this
 generalize bd:(O.push (seqObj "tuple" vs.toArray 0)).objs.size=r at*;have both:∀{s':pe} {oK:Ky},ao X pins σ H s'->s'.heap.get? a=!(seqObj "list" #[] B)->s'.heap.get? r=!oK->(∀v,oK.data≠.cell v)->ao X ((a,seqObj "list" #[] B)::(r,oK)::pins) σ H s':=λ{s' oK} J ea C nc=>by
  show (J.pin_add fk C nc).pin_add {D.1,D.2.1,D.2.2.1,D.2.2.2.1,D.2.2.2.2.1,λp hp=>?_} ea (λv z=>by cases z);let q||q:=Jc.mp hp
  ·show D.2.2.2.2.2 p (JD _ q)
  ·let 9||q:=Jb.mp q
   ·show λz=>ab z.symm
   ·show D.2.2.2.2.2 p (xC _ q)
 unfold ksk_rest;show mi (KU ?_);rw[<- Array.forIn_toList];simp only[List.toList_toArray];show mi (ksk_fold (λi s'=>∃c e,ao X ((a,seqObj "list" #[] B)::(r,seqObj "list" c e)::pins) σ H s'/\IntsAre c.toList (kz.take i)) vs 0 _
  ⟨#[],0,both I3 a0 a2 (λv z=>by cases z),by simpa using IntsAre.nil⟩ ?step ?done)
 case step=>
  rintro j x s' hx ⟨c,e,J,hk⟩;simp only[LQ]at hk ⊢;have hj:j<vs.length:=(op.mp hx).1;let(k,ap):∃k,kz[j]?=some k:=⟨_,li ()⟩;have as:c.size<=vs.length:=by
   have z:=hk.length;rw[JH,Jn]at z;omega
  show mi (N1 (Jg (aC j x k hx ap _ s' (λp hp=>wh _ (wh _ hp)) J) (λv s2 hq=>?_) λ_ _ hF=>hF.elim));let((t2,9),J2):=hq;dsimp only;have ea:=J2.pin_get (p:=(a,seqObj "list" #[] B)) vr;have C:=J2.pin_get (p:=(r,seqObj "list" c e)) (wh _ vr);dsimp only at ea C;have sb:=Lo s2.heap r (JC (·.push (.int k t2)));let(T,ac):∃T,(s2.heap.update r (JC (·.push (.int k t2)))).get? r=some (seqObj "list" (c.push (.int k t2)) T):=
   {_,get?_update_seq C _}
  have et:kz.take (j+1)=kz.take j++[k]:=by rw[MC,ap];rfl
  show mi
   (listUpdate_at C 9 ?_ (l _ as) (by rw[Array.size_push];show Ld (l _ as)))
  show ri {9,c.push (.int k t2),T,?_,?_}
  ·show both (J2.pin_drop.pin_drop.turn1 (t':=s2.toks) fk λb o hb z=>(sb.2 b hb).trans z) ((sb.2 a ab).trans ea) ac (λv z=>by cases z)
  ·rw[et,NU]
   show ksk_snoc hk
 case done=>
  rintro s' ⟨c,e,J,hk⟩;have M:IntsAre c.toList kz:=by
   rw[LQ,JS ()]at hk;show hk
  have y:c.size=vs.length:=by
   have z:=M.length;rw[JH]at z;omega
  have ea:=J.pin_get (p:=(a,seqObj "list" #[] B)) vr;have C:=J.pin_get (p:=(r,seqObj "list" c e)) (wh _ vr);dsimp only at ea C ⊢;have J0:=J.pin_drop.pin_drop;show mi
   (listItems_at C 9 ?_)
  have N:(c.zip vs.toArray).size=vs.length:=by rw[Array.size_zip,y,y9,NI]
  have tail:∀st:SortSt,(arrOf st).Perm (c.zip vs.toArray)->SortedTo (arrOf st) (arrOf st).size->failedOf st=8->wpAny (model X.prog X.w) A (ksk_tail a 5 B (.ref r) st) P E s':=by
   intro st hp hs DH;have a3:(arrOf st).size=vs.length:=by rw[hp.size_eq,N]
   have sb:=Lo s'.heap r (JC λ_=>(#[]:Array n5));have U:(s'.heap.update r (JC λ_=>(#[]:Array n5))).get? a=!(seqObj "list" #[] B):=(sb.2 a ab).trans ea;have a5:=Lo (s'.heap.update r (JC λ_=>(#[]:Array n5))) a (JC λ_=>(arrOf st).map (·.2));let(T,ac):∃T,((s'.heap.update r (JC λ_=>(#[]:Array n5))).update a (JC λ_=>(arrOf st).map (·.2))).get? a=some (seqObj "list" ((arrOf st).map (·.2)) T):=
    {_,get?_update_seq U _}
   unfold ksk_tail;dsimp only;show mi
    (listUpdate_at C 9 ?_ (l _ (Ot y)) (Jd _))
   show mi (Lp ?_);show mi
    (seqEpoch_at U 9 ?_)
   simp only[xN,if_false];show mi
    (listUpdate_at U 9 ?_ (Jd _) (by rw[Array.size_map,a3];show LD (l _ (oN _))))
   rw[DH];simp only[bne_self_eq_false,xN,if_false];show ri (h _ _ T ?_ ac ?_)
   ·show (J0.turn1 (t':=s'.toks) fk λb o hb z=>(sb.2 b hb).trans z).turn1 (t':=s'.toks) D λb o hb z=>(a5.2 b hb).trans z
   ·have z:=ksk_out (b:=5) M hp hs
    simpa using z
  unfold ksk_end;simp only[xN,if_false]
  by_cases h2:vs.toArray.size<2
  ·rw[if_pos h2,if_pos h2]
   show mi (ri ?_);rw[StateT.run_pure];show mi (ri ?_);dsimp only;show tail _ (Ly _) ?_ 9;intro i j bc hj;have a1:j<(c.zip vs.toArray).size:=hj;rw[N]at a1;rw[y9]at h2;have:i=j:=()
   subst this;show JZ _
  ·rw[if_neg h2,if_neg h2]
   rw[y9]at h2;rw[ksk_kind M (by rw[y];omega)];show mi (ri ?_);show mi
    (Jg (a6 (a₀:=c.zip vs.toArray) (st:=SortSt.mk' oneType' (c.zip vs.toArray) #[] 07 8)
     (Q:=λ_ z=>(arrOf z).Perm (c.zip vs.toArray)/\failedOf z=8/\SortedTo (arrOf z) (c.zip vs.toArray).size)
     (ksk_intKeys M) {Ly _,9,9,9} (by rw[N];omega) (by rw[N];show hz) λz b1 b2 b3=>⟨b1,b2,b3⟩) ?_ λ_ _ e=>e)
   rintro ⟨⟨⟩,z⟩ s2 ⟨rfl,b1,b2,b3⟩;dsimp only;show tail z b1 (by rw[b1.size_eq];show b3) b2
def Bc{P c:mu}{a:Pc}{scope:JT}(I:ao X pins σ H s)
  (T:H P=!(.tbl l (X.env.qual ++ "<lambda>"))) (p:X.env.code=.ref c) (C:PySem.W.CodeHd X.base c P) (S:wD X scope N' cap) (ap:defaultsOf a X.env=([],[]))
  (h:∀(f c':mu) (r:Ky) (vs:Array n5) (t:Tok) (i:n5) (s':pe) (H':Hp),
   ao X ((f,Pe "<lambda>" (X.env.qual ++ "<lambda>") a j scope (aI X.env scope.names []) ((X.mg "__name__").getD .none) c' i)::pins) σ H' s'->
   (H'=H\/∃b,H b=8/\H'=upd H b (.frz r (.own P)))->H' c'=!.frz r (.own P)->r.data=.fields vs->vs[1]?=!(.str (X.env.qual ++ "<lambda>") t)->Q (.ref f) s'):
  wpAny (model X.prog X.w) A (eval (.Lambda a j scope l) X.env) Q E s:=by
 let(ps,hP,tr,hc):=(show aS X.prog X.w H s.heap P (.tbl l (X.env.qual ++ "<lambda>")) from I.hok P _ T);let(bm,ob,m1,m2,m3,m4,m5,m6):=I.mod.bm;have O:s.heap.Ns I0 X.mg:=I.mod.glob.keeps I.bk;have ab:bm≠I0:=λq=>by
  let(o,es,ep,e,hd,_):=I.mod.glob;rw[q,e]at m3;cases m3;rw[hd]at m6;cases m6
 have ac:bm≠P:=λq=>by
  have e:=I.bk _ _ m3;rw[q,hP]at e;cases e;cases m4
 have a1:I0≠P:=λq=>by
  let(o,es,ep,e,hd,_):=O;rw[q,hP]at e;cases e;cases hd
 have hB:s.heap.BuiltinsAt X.mg P:={bm,ob,m1,m2,ab,ac,I.bk _ _ m3,m4,m5,m6};have an:closureFor scope X.env=pure (aI X.env scope.names []):=e9 (I.cellOf S);show PySem.W.kla_eval ap ?_;cases x:codeAmong l ps.toList with
 | none=>
  show PySem.W.kla_makeFunction an I.ok.glob O p (C.keeps I.bk) hP tr x a1 hB λc' i h' tk hx N as aC a0=>?_;let(c2,r,vs,t,ec,aA,B,hq):=aC;cases ec;have D:H c'=8:=I.hok.fresh N;have a4:P≠c':=ae T D;have hsz:↑s<=h'.objs.size:=xM N (Jh as);have lt:∀b o,s.heap.get? b=!o->b≠c':=λb o e=>vu (ti (xE e) N);have old:∀b o,b≠P->s.heap.get? b=!o->(h'.push (Pe "<lambda>" (X.env.qual ++ "<lambda>") a j scope (aI X.env scope.names []) ((X.mg "__name__").getD .none) c' i)).get? b=!o:=
   λb o M e=>pu _ (hx b o M e)
  have nP:∀b,H b=8->b≠P:=λb n z=>by rw[z,T]at n;cases n
  have a3:Un X.fs [] H (upd H c' (.frz r (.own P))) s.heap (h'.push (Pe "<lambda>" (X.env.qual ++ "<lambda>") a j scope (aI X.env scope.names []) ((X.mg "__name__").getD .none) c' i)):=by
   show ⟨λb o e n _ _=>old b o (nP b n) e,λb o e n _ _=>{o.slots,old b o (nP b n) e},λb o e n _=>by rw[af (lt b o e)];show n,λb o e _=>?_,
    λb xs q=>by rw[af (ae q D)];show q,λb o u q=>by rw[af (ae q D)];show q,λb pl y q=>by rw[af (ae q D)];show q⟩
   by_cases M:b=P
   ·show ⟨_,by rw[M];show pu _ a0⟩
   ·show {o,old b o M e}
  have a2:iP X.prog X.w (upd H c' (.frz r (.own P))) (h'.push (Pe "<lambda>" (X.env.qual ++ "<lambda>") a j scope (aI X.env scope.names []) ((X.mg "__name__").getD .none) c' i)):=λb u e=>by
   by_cases U:b=c'
   ·subst U
    rw[aa]at e;cases e;show {pu _ aA,_,pu _ aA}
   ·rw[af U]at e
    by_cases M:b=P
    ·subst M
     rw[T]at e;cases e;have eL:(ps++#[rawInt l.line,rawInt l.col,Ja c']).toList=ps.toList++[rawInt l.line,rawInt l.col,Ja c']:=by simp
     show ⟨_,pu _ a0,by rw[eL];show TriplesOk_snoc _ _ _ _ tr,λcv z=>?_⟩;rw[eL,codeAmong_snoc _ tr x]at z;cases z;show ⟨c',r,vs,t,9,aa,B,hq⟩
    ·show (I.hok b u e).stay (λd v hd q=>old d v ?_ q) (λd q=>by rw[af (ae q D)];show q) (λd xs q=>by rw[af (ae q D)];show q) λd o y q=>by rw[af (ae q D)];show q
     let 9||hd:=hd
     ·show M
     ·intro z;rw[z,T]at hd;cases hd
  have J:ao X pins σ (upd H c' (.frz r (.own P))) { s with heap:=h'.push (Pe "<lambda>" (X.env.qual ++ "<lambda>") a j scope (aI X.env scope.names []) ((X.mg "__name__").getD .none) c' i),toks:=tk }:=I.un a3 a2;show h h'.objs.size c' r vs t i _ _ (J.pin_add ?_ (y8 _ 9) (λv z=>by cases z)) (.inr ⟨c',D,9⟩) aa B hq;show I.fpOk hsz (by rw[af (Kg as)];show I.hok.fresh hsz)
 | some cv=>
  let(c',r,vs,t,9,e2,B,hq):=hc cv x;show PySem.W.kla_makeFunctionHit an I.ok.glob O p (C.keeps I.bk) hP tr x hB λi h' tk hk hsz=>?_;have J:ao X pins σ H { s with heap:=h'.push (Pe "<lambda>" (X.env.qual ++ "<lambda>") a j scope (aI X.env scope.names []) ((X.mg "__name__").getD .none) c' i),toks:=tk }:=
   I.kept λb o e=>pu _ (hk b o e)
  show h h'.objs.size c' r vs t i _ H (J.pin_add ?_ (y8 _ 9) (λv z=>by cases z)) (.inl 9) e2 B hq;show I.fpOk hsz (I.hok.fresh hsz)
def Ej(X:Cx)(A:Jq)(a:xD)(scope:JT)(N':7 xD)(f:mu)(b:n5)(s:pe)(H:Hp):Cx where
 prog:=X.prog
 w:=X.w
 K:=X.K
 mg:=X.mg
 base:=X.base
 A:=A.deeper (envX a scope ↑s f b (aI X.env scope.names []))
 N:=N'
 s₀:=s
 H₀:=H
 env:=envX a scope ↑s f b (aI X.env scope.names [])
 outer:=X.stack
 stack:=envX a scope ↑s f b (aI X.env scope.names [])::X.stack
 ex:=[]
 calm:=6
 fn:=λ_=>5
 pn:=[]
 xe:=λ_ _=>False
def Bd{l:Pc}{scope:JT}{P:mu}
  (I:ao X pins σ H s) (hA:A.frames=!X.stack) (hh:A.handled=8) (hd:A.depth<OS)
  (hf:(f,Pe "<lambda>" h l n scope (aI X.env scope.names []) pm c' ap)∈pins) (hc:H c'=!.frz oc (.own P)) (aA:oc.data=.fields vs) (hq:vs[1]?=!.str h t)
  (S:wD X scope [x,y] [8,!j]) (ac:scope.names.lookup x=!.local) (as:scope.isCoroutine=5) (T:scope.isGenerator=5)
  (D:∀cdv,P6 (PySem.W.kla_fn "<lambda>" h l n scope (aI X.env scope.names []) pm cdv ap) {[v],[]}=pure [(x,v)])
  (a4:σ[j]?=!!b) (rv:aE a v) (hb:∀s',PE (Ej X A h scope [x,y] f (.ref c') s' H) n te) (q:te [!a,!b] H Qv):
  wpAny (model X.prog X.w) A (call (.ref f) [v]) (λu s'=>∃z H',aE z u/\Qv z H'/\ao X pins σ H' s') (λ_ _=>False) s:=by
 have ab:=I.nolimit;have ho:=I.pin_get hf;let(a0,_):=(show aS X.prog X.w H s.heap c' (.frz oc (.own P)) from I.hok c' _ hc);show Lr (PySem.W.kla_callFunE hd ho 9 as T 9 ⟨c',oc,vs,t,9,a0,aA,hq⟩ ?_);rw[D];show ri (Ng S.nocell (λz hz=>by rw[Jj.mp hz];show ac) (λB aC a2=>?_) S.kind);have c:∀b o,s.heap.get? b=!o->B.get? b=!o:=λb o e=>a2.extBut b o (vu (xE e)) (pu _ e);show {ab.keeps c,?_};show K0 _ _ (.expr n (envX h scope ↑s f (.ref c') (aI X.env scope.names []))) _ _
 have J:ao (Ej X A h scope [x,y] f (.ref c') s H) [] [!a,!b] H { s with heap:=B,toks:=s.toks+1 }:=by
  show ⟨⟨I.ok.mod,S.kind,9,9,oN _,λz z' d h1 h2=>?_,λz hz=>?_,λz d hz=>(by cases hz),λ_=>hh,OX hA,.inr ⟨9,9⟩,λd r=>absurd (show d∈([]:7 mu) from r) (by simp),I.bs,xM I.ok.bsz I.sz,
    λd _ _=>(by show d∉([]:7 mu);simp),λd r=>absurd (show d∈([]:7 mu) from r) (by simp),I.stack,I.stkFree⟩,
   rfl,I.bare,Un.kept c,{_,aC,λi z u N O e3=>?_},λz d e=>?_,I.hok.fresh (oN _),λz d e=>I.freeC z d (I.clLook S e),λp hp=>absurd (show p∈([]:7 (mu×Ky)) from hp) (by simp),I.hok.kept c,9⟩
  ·show I.ok.inj z z' d (I.clLook S h1) (I.clLook S h2)
  ·have hz':scope.names.lookup z=!.cell\/scope.names.lookup z=!.free:=hz
   let hz'||hz':=hz'
   ·show absurd 9 (S.nocell _ (PySem.mem_of_lookup hz'))
   ·show cB _ _ z (PySem.mem_of_lookup hz')
  ·match i,N,O with
   | 0,N,O=>
    cases N;cases O;show {v,rv,.inl ⟨ac,by simp⟩}
   | 1,N,O=>
    cases N;cases O;let(a1,_,a3):=S.cap 1 (J9.mpr (by show 1<2;omega)) j 9;have an:X.N[j]?=!y:=a1.symm;have C:scope.names.lookup y=!.free:=a3;have U:X.env.kindOf y=!.cell\/X.env.kindOf y=!.free:=S.free _ (PySem.mem_of_lookup C) 9;let(m0,a5,hl):=I.loc;let(u',ru,lk):=hl j y _ an a4 (U.elim (λz=>.inr (.inl z)) λz=>.inr (.inr z));show {u',ru,?_};let(z,_)||(_,d,ec,M):=lk
    ·let w'||w':=U
     ·rw[z]at w';cases w'
     ·rw[z]at w';cases w'
    ·let(d',Q):=cB (env:=X.env) scope.names [] y (PySem.mem_of_lookup C)
     have:d'=d:=vb ((I.clLook S Q).symm.trans ec);subst this;show .inr {.inr C,d',Q,M.keeps c}
  ·let(u',z'):=I.cell z d (I.clLook S e)
   show {u',z'.keeps c}
 show PySem.W.kla_codeExpr (Jg (hb s [] _ _ H Qv J q) (λu s' hu=>?_) λ_ _ z=>JB z);let(z,H',J',rz,qz):=hu;show {z,H',rz,qz,I.call' (ch:=[]) J'.os J'.base J'.hok J'.bare λd r=>absurd r (by simp)}
end
def Be{K:PySem.W.Frag}{f:xD}{pl:LM}{q:xD}{c P:mu}(h:Qa K f=!(c,P)):mI K [(f,pl,q)] P=!(pl,q):=by
 unfold mI;simp[h]
end L2
namespace Sh
structure S where
 st:7 (7 4)
 gone:4
 mv:7 Yd.Mv
def out(ord ar:7 4)(s:S):Option S:=
 match ord[s.gone]? with
 | none=>8
 | some w=>if (s.st.getD (ar.getD w 0) []).getLast?=some w then some ⟨s.st.set (ar.getD w 0) (s.st.getD (ar.getD w 0) []).dropLast,s.gone+1,s.mv++[(5,ar.getD w 0)]⟩ else 8
def wW(ar:7 4)(s:S)(i:4):S:={s.st.set (ar.getD i 0) (s.st.getD (ar.getD i 0) []++[i]),s.gone,s.mv++[(6,ar.getD i 0)]}
inductive oi(ord ar:7 4):S->S->Prop
 | refl (s:S):oi ord ar s s
 | step {s s' s'':S}:oi ord ar s s'->out ord ar s'=!s''->oi ord ar s s''
def init(a:4):S:={ra a [],0,[]}
inductive Bf(ord ar:7 4)(many:4):4->S->Prop
 | zero:Bf ord ar many 0 (init many)
 | succ {i:4} {s s':S}:Bf ord ar many i s->oi ord ar (wW ar s i) s'->out ord ar s'=8->Bf ord ar many (i+1) s'
section
variable {T:7 3} {ord ar:7 4} {many:4}
def C1(T:7 3)(ord:7 4)(s:S)(i:4):Yd.St:={s.st.map λc=>c.map λp=>T.getD p 0,(ord.take s.gone).map λp=>T.getD p 0,i}
def pH{s:7 (7 4)}{f:4->3}(t:4):(s.map λc=>c.map f).getD t []=(s.getD t []).map f:=by
 rw[oa,oa,r6];cases s[t]?<;>rfl
def Fy{s:S}{i:4}(hi:i<T.length):Yd.step T 6 (C1 T ord s i) (6,ar.getD i 0)=!(C1 T ord (wW ar s i) (i+1)):=by
 unfold Yd.step;rw[if_pos 9];show (match T[i]? with | some x=>_ | none=>8)=_;rw[li hi];show some (Yd.St.mk _ _ _)=!Yd.St.mk _ _ _;congr 2;show List.set (s.st.map λc=>c.map λp=>T.getD p 0) (ar.getD i 0) ((s.st.map λc=>c.map λp=>T.getD p 0).getD (ar.getD i 0) []++[T[i]])=(s.st.set (ar.getD i 0) (s.st.getD (ar.getD i 0) []++[i])).map _;rw[Ma,pH,v0];congr 2;show [T[i]]=[T.getD i 0];rw[oa,li hi];rfl
def Fz{s s':S}{i:4}(h:out ord ar s=!s'):∃m,s'.mv=s.mv++[m]/\Yd.step T 6 (C1 T ord s i) m=!C1 T ord s' i:=by
 unfold out at h;cases e:ord[s.gone]? with
 | none=>rw[e]at h;cases h
 | some w=>
  rw[e]at h;dsimp only at h
  split at h
  ·rename_i a
   cases h;show {_,9,?_};unfold Yd.step;rw[if_neg t7,if_pos 9];show (match ((s.st.map λc=>c.map λp=>T.getD p 0).getD (ar.getD w 0) []).getLast? with | some x=>_ | none=>8)=_;rw[pH,NT,a];show some (Yd.St.mk _ _ _)=!Yd.St.mk _ _ _;congr 2
   ·show List.set (s.st.map λc=>c.map λp=>T.getD p 0) (ar.getD w 0) (List.dropLast ((s.st.map λc=>c.map λp=>T.getD p 0).getD (ar.getD w 0) []))=(s.st.set (ar.getD w 0) _).map _
    rw[Ma,pH,MI]
   ·show (ord.take s.gone).map (λp=>T.getD p 0)++[T.getD w 0]=(ord.take (s.gone+1)).map λp=>T.getD p 0
    rw[MC,e,v0];rfl
  ·cases h
def C2(h:oi ord ar s s'):∃ms,s'.mv=s.mv++ms/\∀y,Yd.steps T 6 y s.mv=!C1 T ord s i->Yd.steps T 6 y s'.mv=!C1 T ord s' i:=by
 induction h with
 | refl=>show ⟨[],by simp,λ_ q=>q⟩
 | step h e d=>
  let(ms,b,q):=d;let(m,a,z):=Fz (T:=T) (i:=i) e;show ⟨ms++[m],by rw[a,b,Ju],λy c=>?_⟩;rw[a,Yd.gZ,q y c];show z
def FA{n i:4}(h:Bf ord ar many i s)(hi:i<=T.length):Yd.steps T 6 (Yd.init many) s.mv=!C1 T ord s i:=by
 induction h with
 | zero=>
  show some (Yd.init many)=_;unfold C1 init Yd.init;simp
 | @succ i s s' h o _ a=>
  have q:=a ();let(ms,_,z):=C2 (T:=T) (i:=i+1) o;show z _ ?_;show Yd.steps T 6 (Yd.init many) (s.mv++[(6,ar.getD i 0)])=_;rw[Yd.gZ,q];show Fy ()
end
section
variable {ord ar:7 4} {many n:4}
structure qR(ord:7 4)(n:4):Prop where
 nd:ord.Nodup
 mem:∀p,p∈ord↔p<n
def qR.at_(h:qR ord n)(hp:p<n):ord[ord.idxOf p]?=!p:=by
 have a:=(h.mem p).mpr hp;rw[li (KG.mpr a),NJ]
def qR.idx(h:qR ord n)(e:ord[j]?=!p):ord.idxOf p=j:=by
 let(a,9):=op.mp e;show h.nd.idxOf_getElem j a
def qR.lt(h:qR ord n){j p:4}(e:ord[j]?=!p):p<n:=(h.mem p).mp (xA e)
def qR.inj(h:qR ord n)(hp:p<n)(b:q<n)(e:ord.idxOf p=ord.idxOf q):p=q:=by
 have a:=h.at_ hp;rw[e,h.at_ b]at a;show (vb a).symm
def lZ(ord ar:7 4)(s:S)(i:4):Prop:=∃w,ord[s.gone]?=!w/\w<i/\(s.st.getD (ar.getD w 0) []).getLast?≠some w
structure J(ord ar:7 4)(many n i:4)(s:S):Prop where
 len:s.st.length=many
 here:∀t p,p∈s.st.getD t []↔(p<i/\ar.getD p 0=t/\s.gone<=ord.idxOf p)
 up:∀t (k a b:4),(s.st.getD t [])[k]?=!a->(s.st.getD t [])[k+1]?=!b->a<b
 adj:∀t (k a b:4),(s.st.getD t [])[k]?=!a->(s.st.getD t [])[k+1]?=!b->ord.idxOf a<ord.idxOf b->
  ∃r w,r<ord.idxOf a/\ord[r]?=!w/\(b<w\/(s.gone=r/\lZ ord ar s i))
def jk{s:7 (7 4)}{t t':4}{c:7 4}(a:t<s.length):(s.set t c).getD t' []=if t'=t then c else s.getD t' []:=by
 rw[oa,oa,MF]
 by_cases e:t=t'
 ·subst e
  rw[if_pos 9,if_pos 9,if_pos a];rfl
 ·rw[if_neg e,if_neg (JP e)]
def ud(b:lZ ord ar s i):out ord ar s=8:=by
 let(w,e,_,h):=b;unfold out;rw[e];show if_neg h
def J.left(O:qR ord n)(j:J ord ar many n i s)(ht:∀p,p<n->ar.getD p 0<many)(e:out ord ar s=!s'):J ord ar many n i s':=by
 have nb:¬ lZ ord ar s i:=λb=>by rw[ud b]at e;cases e
 unfold Sh.out at e;cases D:ord[s.gone]? with
 | none=>rw[D]at e;cases e
 | some w=>
  rw[D]at e;dsimp only at e
  split at e
  ·rename_i M
   cases e;have hw:=O.lt D;have as:ar.getD w 0<s.st.length:=by rw[j.len];show ht w hw
   have iw:=O.idx D;have I:∀t',(s.st.set (ar.getD w 0) (s.st.getD (ar.getD w 0) []).dropLast).getD t' []=if t'=ar.getD w 0 then (s.st.getD (ar.getD w 0) []).dropLast else s.st.getD t' []:=λt'=>jk as;have ab:s.st.getD (ar.getD w 0) []=(s.st.getD (ar.getD w 0) []).dropLast++[w]:=by
    have T:s.st.getD (ar.getD w 0) []≠[]:=λz=>by rw[z]at M;cases M
    rw[Kh T]at M;have:=Kk T;rw[vb M]at this;show this.symm
   have U:w∉(s.st.getD (ar.getD w 0) []).dropLast:=λQ=>by
    let(k,hk,ek):=Ku Q;have bb:k<(s.st.getD (ar.getD w 0) []).length-1:=by rw[L8]at hk;show hk
    have mono:∀d,k+d<(s.st.getD (ar.getD w 0) []).length->∀a,(s.st.getD (ar.getD w 0) [])[k+d]?=!a->(0<d->w<a)/\(d=0->a=w):=by
     intro d
     induction d with
     | zero=>
      intro hd a ea;show {λz=>absurd z (),λ_=>?_};rw[List.getElem_dropLast]at ek;rw[Qk,li (),ek]at ea;show (vb ea).symm
     | succ d ih=>
      intro hd a ea;have q:=ih () _ (li ());have u:=j.up _ (k+d) _ a (li ()) ea;show {λ_=>?_,λz=>absurd z ()};cases d with
      | zero=>rw[q.2 9]at u;show u
      | succ d=>have:=q.1 ();omega
    have E:(s.st.getD (ar.getD w 0) [])[(s.st.getD (ar.getD w 0) []).length-1]?=!w:=by rw[<- Ke];show M
    have:=(mono ((s.st.getD (ar.getD w 0) []).length-1-k) () w (by rw[show k+((s.st.getD (ar.getD w 0) []).length-1-k)=(s.st.getD (ar.getD w 0) []).length-1 from ()];show E)).1 ();omega
   have sub:∀{t k a},((s.st.set (ar.getD w 0) (s.st.getD (ar.getD w 0) []).dropLast).getD t [])[k]?=!a->(s.st.getD t [])[k]?=!a:=λ{t k a} z=>by
    rw[I t]at z
    split at z
    ·rename_i H
     subst H;rw[List.getElem?_dropLast]at z
     split at z
     ·show z
     ·cases z
    ·show z
   show ⟨by show (s.st.set _ _).length=_;rw[Kd];show j.len,λt p=>?_,λt k a b z1 z2=>j.up t k a b (sub z1) (sub z2),λt k a b z1 z2 z3=>?_⟩
   ·show p∈(s.st.set (ar.getD w 0) _).getD t []↔_/\_/\s.gone+1<=_
    rw[I t]
    by_cases H:t=ar.getD w 0
    ·rw[if_pos H]
     subst H
     constructor
     ·intro hp
      have C:p∈s.st.getD (ar.getD w 0) []:=by rw[ab];show JD _ hp
      let(B,v,y):=(j.here _ p).mp C;show {B,v,?_}
      by_cases z:ord.idxOf p=s.gone
      ·have:p=w:=by
        have ap:p<n\/¬ p<n:=Decidable.em _;let hpn||hpn:=ap
        ·have:=O.at_ hpn
         rw[z,D]at this;show (vb this).symm
        ·have:p∉ord:=λQ=>hpn ((O.mem p).mp Q)
         have ac:=O4 (l:=ord) (a:=p) this;have:=(op.mp D).1;omega
       show absurd (this▸hp) U
      ·omega
     ·rintro ⟨B,v,y⟩
      have C:=(j.here (ar.getD w 0) p).mpr {B,v,()};rw[ab]at C;let z||z:=Jc.mp C
      ·show z
      ·rw[Jj.mp z,iw]at y
       omega
    ·rw[if_neg H]
     constructor
     ·intro hp
      let(B,v,y):=(j.here t p).mp hp;show {B,v,?_}
      by_cases z:ord.idxOf p=s.gone
      ·exfalso
       by_cases hpn:p<n
       ·have:=O.at_ hpn
        rw[z,D]at this;rw[<- vb this]at v;show H v.symm
       ·have:p∉ord:=λQ=>hpn ((O.mem p).mp Q)
        have ac:=O4 (l:=ord) (a:=p) this;have:=(op.mp D).1;omega
      ·omega
     ·rintro ⟨B,v,y⟩
      show (j.here t p).mpr {B,v,()}
   ·let(r,w',B,v,y):=j.adj t k a b (sub z1) (sub z2) z3
    let y||(_,y):=y
    ·show {r,w',B,v,.inl y}
    ·show absurd y nb
  ·cases e
def J.outs(O:qR ord n)(a:∀p,p<n->ar.getD p 0<many)(o:oi ord ar s s')(j:J ord ar many n i s):J ord ar many n i s':=by
 induction o with
 | refl=>show j
 | step _ e b=>show b.left O a e
def J.come(O:qR ord n)(j:J ord ar many n i s)(ht:∀p,p<n->ar.getD p 0<many)(hi:i<n)(C:Sh.out ord ar s=8)(hg:∀p,p<n->ord.idxOf p<s.gone->p<i):J ord ar many n (i+1) (wW ar s i):=by
 have U:ar.getD i 0<s.st.length:=by rw[j.len];show ht i hi
 have D:∀t',(s.st.set (ar.getD i 0) (s.st.getD (ar.getD i 0) []++[i])).getD t' []=if t'=ar.getD i 0 then s.st.getD (ar.getD i 0) []++[i] else s.st.getD t' []:=λt'=>jk U;have bl:∀w,ord[s.gone]?=!w->w<i->lZ ord ar (wW ar s i) (i+1):=λw H hw=>by
  show {w,H,(),?_};show ((s.st.set (ar.getD i 0) _).getD (ar.getD w 0) []).getLast?≠_;rw[D]
  split
  ·rw[Mc,List.getLast?_singleton]
   intro z;have:i=w:=vb z;omega
  ·intro z
   unfold Sh.out at C;rw[H]at C;dsimp only at C;rw[if_pos z]at C;cases C
 show ⟨by show (s.st.set _ _).length=_;rw[Kd];show j.len,λt p=>?_,λt k a b z1 z2=>?_,λt k a b z1 z2 z3=>?_⟩
 ·show p∈(s.st.set (ar.getD i 0) _).getD t []↔_
  rw[D t];have ab:s.gone<=ord.idxOf i:=by
   by_cases z:s.gone<=ord.idxOf i
   ·show z
   ·have:=hg i hi ()
    omega
  by_cases B:t=ar.getD i 0
  ·rw[if_pos B,Jc,Jj]
   subst B
   constructor
   ·rintro (h | rfl)
    ·let(E,v,y):=(j.here _ p).mp h
     show {(),v,y}
    ·show {(),9,ab}
   ·rintro ⟨E,v,y⟩
    by_cases z:p=i
    ·show .inr z
    ·show .inl ((j.here _ p).mpr {(),v,y})
  ·rw[if_neg B]
   constructor
   ·intro h
    let(E,v,y):=(j.here _ p).mp h;show {(),v,y}
   ·rintro ⟨E,v,y⟩
    by_cases z:p=i
    ·rw[z]at v;show absurd v.symm B
    ·show (j.here _ p).mpr {(),v,y}
 ·have u:((s.st.set (ar.getD i 0) (s.st.getD (ar.getD i 0) []++[i])).getD t [])[k]?=!a:=z1
  have e:((s.st.set (ar.getD i 0) (s.st.getD (ar.getD i 0) []++[i])).getD t [])[k+1]?=!b:=z2;rw[D t]at u e
  split at u
  ·rename_i B
   rw[if_pos B]at e;rw[Md]at u e
   split at e
   ·rw[if_pos ()]at u
    show j.up _ k a b u e
   ·rename_i hk
    have hb:b=i:=by
     cases q:k+1-(s.st.getD (ar.getD i 0) []).length with
     | zero=>rw[q]at e;show (vb e).symm
     | succ d=>rw[q]at e;simp at e
    split at u
    ·let(E,_):=(j.here _ a).mp (xA u)
     omega
    ·have:k+1-(s.st.getD (ar.getD i 0) []).length≠0:=()
     cases q:k+1-(s.st.getD (ar.getD i 0) []).length with
     | zero=>show absurd q this
     | succ d=>rw[q]at e;simp at e
  ·rename_i B
   rw[if_neg B]at e;show j.up _ k a b u e
 ·have u:((s.st.set (ar.getD i 0) (s.st.getD (ar.getD i 0) []++[i])).getD t [])[k]?=!a:=z1
  have e:((s.st.set (ar.getD i 0) (s.st.getD (ar.getD i 0) []++[i])).getD t [])[k+1]?=!b:=z2;have old:∀{t:4},(s.st.getD t [])[k]?=!a->(s.st.getD t [])[k+1]?=!b->∃r w,r<ord.idxOf a/\ord[r]?=!w/\(b<w\/((wW ar s i).gone=r/\lZ ord ar (wW ar s i) (i+1))):=λ{t} y1 y2=>by
   let(r,w,E,v,y):=j.adj t k a b y1 y2 z3;let y||(y,w',e1,e2,_):=y
   ·show {r,w,E,v,.inl y}
   ·show {r,w,E,v,.inr {y,bl w' e1 e2}}
  rw[D t]at u e
  split at u
  ·rename_i B
   rw[if_pos B]at e;rw[Md]at u e
   split at e
   ·rw[if_pos ()]at u
    show old u e
   ·rename_i hk
    have T:k+1-(s.st.getD (ar.getD i 0) []).length=0/\b=i:=by
     cases q:k+1-(s.st.getD (ar.getD i 0) []).length with
     | zero=>rw[q]at e;show {9,(vb e).symm}
     | succ d=>rw[q]at e;simp at e
    let(ac,9):=T
    split at u
    ·rename_i ap
     let(E,v,y):=(j.here _ a).mp (xA u);have M:(s.st.getD (ar.getD b 0) []).getLast?=!a:=by
      rw[Ke,show (s.st.getD (ar.getD b 0) []).length-1=k from ()];show u
     have I:s.gone<ord.idxOf a:=by
      let q||q:=LH s.gone (ord.idxOf a)
      ·show q
      ·exfalso
       have ea:s.gone=ord.idxOf a:=()
       have:=O.at_ (p:=a) ();rw[<- ea]at this;unfold Sh.out at C;rw[this]at C;dsimp only at C;rw[v,if_pos M]at C;cases C
     have Q:s.gone<ord.length:=ti I (List.idxOf_le_length);let(w,H):∃w,ord[s.gone]?=some w:=⟨_,li Q⟩;show {s.gone,w,I,H,?_};let q||q||q:=MH w b
     ·show .inr {9,bl w H q}
     ·rw[q]at H
      have:=O.idx H;omega
     ·show .inl q
    ·omega
  ·rename_i B
   rw[if_neg B]at e;show old u e
def zd(O:qR ord n)(l:∀p,p<n->ar.getD p 0<many)(o:oi ord ar s s')(j:J ord ar many n i s)(f:∀p,p<n->ord.idxOf p<s.gone->p<i):∀p,p<n->ord.idxOf p<s'.gone->p<i:=by
 induction o with
 | refl=>show f
 | step o e q=>
  rename_i s' t;have r:=j.outs O l o;intro p hp b;unfold Sh.out at e;cases a:ord[s'.gone]? with
  | none=>rw[a]at e;cases e
  | some w=>
   rw[a]at e;dsimp only at e
   split at e
   ·rename_i h
    cases e
    by_cases z:ord.idxOf p<s'.gone
    ·show q p hp z
    ·have d:ord.idxOf p<s'.gone+1:=b
     have:ord.idxOf p=s'.gone:=()
     have c:p=w:=by
      have:=O.at_ hp;rw[‹ord.idxOf p=s'.gone›,a]at this;show (vb this).symm
     have:=(r.here (ar.getD w 0) w).mp (List.mem_of_mem_getLast? h);rw[c];show this.1
   ·cases e
def J.run(O:qR ord n)(B:∀p,p<n->ar.getD p 0<many)(r:Bf ord ar many i s)(hi:i<=n):J ord ar many n i s/\(∀p,p<n->ord.idxOf p<s.gone->p<i)/\(i=0\/Sh.out ord ar s=8)/\s.gone<=n:=by
 induction r with
 | zero=>
  have q:∀t,(ra many ([]:7 4)).getD t []=[]:=λt=>by
   rw[oa,JV]
   split<;>rfl
  show {{zg,λt p=>?_,λt k a b z=>?_,λt k a b z=>?_},λp _ z=>absurd z (OL _),.inl 9,Jd _}
  ·show p∈(ra many ([]:7 4)).getD t []↔_
   rw[q];simp
  ·have v:((ra many ([]:7 4)).getD t [])[k]?=!a:=z
   rw[q]at v;simp at v
  ·have v:((ra many ([]:7 4)).getD t [])[k]?=!a:=z
   rw[q]at v;simp at v
 | succ r o I E=>
  rename_i i s s';let(j,D,hn,Q):=E ();have C:Sh.out ord ar s=8:=by
   let 9||hn:=hn
   ·cases r
    unfold Sh.out init;cases ord[0]? with
    | none=>rfl
    | some w=>
     dsimp only;rw[if_neg];rw[oa,JV]
     split<;>simp
   ·show hn
  have H:=j.come O B () C D;have y:∀p,p<n->ord.idxOf p<(wW ar s i).gone->p<i+1:=λp hp z=>Lm (D p hp z);have u:=zd O B o H y;show {H.outs O B o,u,.inr I,?_};clear I u
  induction o with
  | refl=>show Q
  | step o e E=>
   unfold Sh.out at e
   split at e
   ·cases e
   ·rename_i w M
    split at e
    ·cases e
     have U:=(op.mp M).1;have h2:ord.length<=n:=by
      have:=JI O.nd (l₂:=IZ n) λx T=>J9.mpr ((O.mem x).mp T);rw[Jv]at this;show this
     show _+1<=n;omega
    ·cases e
def C3(O:qR ord n)(ht:∀p,p<n->ar.getD p 0<many){s:S}(r:Bf ord ar many n s)(h:s.gone<n):
  ∃f c k,ord[s.gone]?=!f/\f<n/\(s.st.getD (ar.getD f 0) [])[k]?=!f/\(s.st.getD (ar.getD f 0) [])[k+1]?=!c/\(∀k'<k,(s.st.getD (ar.getD f 0) [])[k']?≠some f) /\
   f<c/\c<n/\ar.getD c 0=ar.getD f 0/\ord.idxOf f<ord.idxOf c/\∃q w,q<s.gone/\ord[q]?=!w/\c<w:=by
 let(j,_,U,_):=J.run O ht r (oN _);have H:ord.length=n:=by
  have N:ord.length<=n:=by
   have:=JI O.nd (l₂:=IZ n) λx C=>J9.mpr ((O.mem x).mp C);rw[Jv]at this;show this
  have E:n<=ord.length:=by
   have:=JI (Oa (n:=n)) λx C=>(O.mem x).mpr (J9.mp C);rw[Jv]at this;show this
  omega
 let(f,l):∃f,ord[s.gone]?=some f:=⟨_,li ()⟩;have u:=O.lt l;have ac:=O.idx l;have T:f∈s.st.getD (ar.getD f 0) []:=(j.here _ f).mpr {u,9,()};have d:Sh.out ord ar s=8:=U.resolve_left ();have B:(s.st.getD (ar.getD f 0) []).getLast?≠some f:=λz=>by
  unfold Sh.out at d;rw[l]at d;dsimp only at d;rw[if_pos z]at d;cases d
 have Q:=KG.mpr T;have o:(s.st.getD (ar.getD f 0) [])[(s.st.getD (ar.getD f 0) []).idxOf f]?=!f:=by rw[li Q,NJ]
 have A:(s.st.getD (ar.getD f 0) []).idxOf f+1<(s.st.getD (ar.getD f 0) []).length:=by
  let q||q:=LH ((s.st.getD (ar.getD f 0) []).idxOf f+1) (s.st.getD (ar.getD f 0) []).length
  ·show q
  ·exfalso
   apply B
   rw[Ke,show (s.st.getD (ar.getD f 0) []).length-1=(s.st.getD (ar.getD f 0) []).idxOf f from ()];show o
 let(c,e):∃c,(s.st.getD (ar.getD f 0) [])[(s.st.getD (ar.getD f 0) []).idxOf f+1]?=some c:=⟨_,li A⟩;have v:=j.up _ _ f c o e;let(D,I,c3):=(j.here _ c).mp (xA e);have ab:ord.idxOf c≠ord.idxOf f:=λz=>by
  have:=O.inj D u z;omega
 have b:ord.idxOf f<ord.idxOf c:=()
 let(q,w,N,E,t):=j.adj _ _ f c o e b;show {f,c,_,l,u,o,e,λk' a z=>?_,v,D,I,b,q,w,(),E,?_}
 ·have z':=(op.mp z)
  let(hz,M):=z';show absurd M (by
   have:=OD (p:=λx=>x==f) (xs:=s.st.getD (ar.getD f 0) []) (i:=k') (by unfold List.idxOf at a;show a);intro y;rw[y]at this;simp at this)
 ·let t||(t,_):=t
  ·show t
  ·omega
end
end Sh
namespace L2
open PySem PySem.Spec PyProof.Rows
structure qi(T:7 3)(ord:7 4):Prop where
 perm:ord.Perm (IZ T.length)
 up:ord.Pairwise λp q=>T.getD p 0<=T.getD q 0
def qi.ord{T:7 3}{ord:7 4}(h:qi T ord):Sh.qR ord T.length:={h.perm.nodup_iff.mpr Oa,λp=>by rw[h.perm.mem_iff,J9]}
def qi.lt{T:7 3}{ord:7 4}(h:qi T ord)(n:T.Nodup)(i j p q:4)(a:i<j)(b:ord[i]?=!p)(e:ord[j]?=!q):T.getD p 0<T.getD q 0:=by
 let(hi,9):=op.mp b;let(s,9):=op.mp e;have t:=LU.mp h.up i j hi s a;have hp:=h.ord.lt b;have v:=h.ord.lt e;have u:T.getD ord[i] 0≠T.getD ord[j] 0:=λz=>by
  rw[oa,oa,li hp,li v]at z;have y:T[ord[i]]=T[ord[j]]:=z;have:=(MX n).mp y;have:=(MX h.ord.nd).mp this;omega
 omega
section
variable {X:Cx} {E:XK}
def C6{vs out:7 n5}(x:vs.length=T.length)(hi:∀(j:4) (v:n5),vs[j]?=!v->∃t,v=.int (j:3) t)(h:KskOut 5 T vs out):∃ord,qi T ord/\az (ord.map λ(p:Nat)=>V.int (p:3)) out:=by
 let(ps,hp,9,hs):=h
 let f:Int×n5->Nat:=λp=>match p.2 with | .int i _=>i.toNat | _=>0
 have a:∀p∈ps,∃(j:4) (t:Tok),p.2=.int (j:3) t/\j<T.length/\T.getD j 0=p.1/\f p=j:=λp s=>by
  have D:=hp.mem_iff.mp s;let(j,l,e):=Ku D;rw[Mi,x,NI]at l;rw[List.getElem_zip]at e;let(t,b):=hi j vs[j] (li ());show {j,t,?_,l,?_,?_}
  ·rw[<- e];show b
  ·rw[oa,li l,<- e];rfl
  ·rw[<- e]
   show (match vs[j] with | .int i _=>i.toNat | _=>0)=j;rw[b];show Ji j
 show {ps.map f,{?_,?_},?_}
 ·have y:=hp.map f
  have C:(T.zip vs).map f=IZ T.length:=by
   show KQ λk=>?_;rw[r6]
   by_cases z:k<T.length
   ·rw[li (by rw[Mi,x,NI];show z),LI z,List.getElem_zip]
    let(t,b):=hi k vs[k] (li ());show some (match vs[k] with | .int i _=>i.toNat | _=>0)=!k;rw[b];show congrArg some (Ji k)
   ·rw[Jk.mpr (by rw[Mi,x,NI];omega),Jk.mpr (by rw[Jv];omega)]
    rfl
  rw[C]at y;show y
 ·rw[MJ]
  show hs.imp_of_mem λ{p q} o u n=>?_;let(j,_,_,_,c,d):=a p o;let(k,_,_,_,A,B):=a q u;rw[d,B,c,A]
  simpa using n
 ·clear hs hp
  induction ps with
  | nil=>show .nil
  | cons p r I=>
   let(j,t,c,_,_,d):=a p vr;show .cons ?_ (I λq H=>a q (wh _ H));rw[d];show ⟨t,c⟩
def ao.adopt(I:ao X i σ H s)(f:cy X i H a)(M:↑X.s₀<=a)
  (B:s.heap.get? a=some { cls:=.type "list",data:=.seq its.toArray m }) (U:az xs its) (D:xs.length<=sizeLine):ao X i σ (upd H a (.lst xs)) s:=by
 have j:=f.1;show ⟨I.ok,I.os,I.bare,{I.base.keep,I.base.slot,λb o q n C=>?_,I.base.there,λb xs q=>aj (I.base.tups b xs q) j,λb o u q=>aj (I.base.frzs b o u q) j,λb pl y q=>aj (I.base.tbls b pl y q) j},I.loc,I.cell,
  by rw[af f.2.1.symm];show I.free,λx c e=>by rw[af (f.2.2.2.2.1 x c e)];show I.freeC x c e,λp hp=>?_,λb o q=>?_,I.len⟩
 ·rw[af (λz=>by rw[z,Jy M]at q;cases q)]
  show I.base.free b o q n C
 ·let(O,Q,T):=I.pin p hp
  show ⟨O,by rw[af (f.2.2.2.2.2 p hp)];show Q,T⟩
 ·by_cases t:b=a
  ·subst t
   rw[aa]at q;cases q;show ⟨D,its,m,U,B⟩
  ·rw[af t]at q
   show (I.hok b o q).stay (λc v _ r=>r) (λc r=>aj r j) (λc xs r=>aj r j) λc ob y r=>aj r j
def KB(c:4)(P:mu)(pl:LM)(q:xD)(j:4)(σ:St)(Q:VK)(v:V)(H1:Hp):Prop:=∃(r a:mu) (T:7 3),v=.ref r/\H1 r=!.rng 0 T.length/\σ[j]?=!!.ref a/\H1 a=!.lst (T.map V.int)/\T.length<=c/\H1 P=!.tbl pl q /\
 ∀(l:mu) (b:Hp) (ord:7 4),ag H1 b->H1 l=8->qi T ord->b l=!(.lst (ord.map λ(p:Nat)=>V.int (p:3)))->Q (.ref l) b
def Ix(a:4)(P:mu)(pl:LM)(q:xD)(te:TE)(j:4):TE:=λσ H Q=>te σ H (KB a P pl q j σ Q)
def FB{P c:mu}{scope:JT}{d:Pc}
  (cd:vx a2) (a7:a2<=100000) (he:PE X e te) (hr:bv (k+1) X.A) (aC:X.env.code=.ref c) (C:∀{h:Jz},X.K.In h->PySem.W.CodeHd h c P) (S:wD X scope [x,y] [8,!j]) (bd:scope.names.lookup x=!.local) (b3:scope.names.lookup y=!.free)
  (bA:scope.isCoroutine=5) (a6:scope.isGenerator=5) (hg:Gl X "sorted") (hm:X.mg "sorted"=8) (a5:defaultsOf d X.env=([],[]))
  (aA:∀(cl:7 (xD×mu)) (pm cdv a3 v:n5),P6 (PySem.W.kla_fn "<lambda>" (X.env.qual ++ "<lambda>") d (.Subscript (.Name y ap) (.Name x an) ac) scope cl pm cdv a3) {[v],[]}=pure [(x,v)])
  (dx:(x==("__debug__":xD))=5:=by decide) (dx':(x==("__classdict__":xD))=5:=by decide) (dy:(y==("__debug__":xD))=5:=by decide) (dy':(y==("__classdict__":xD))=5:=by decide)
  (a0:starEach [e] X.env=(5,eval e X.env)::starEach [] X.env:=by rfl):
  PE X (.Call (.Name "sorted" p) [e] [{!"key",.Lambda d (.Subscript (.Name y ap) (.Name x an) ac) scope B,kp}] l) (Ix a2 P B (X.env.qual ++ "<lambda>") te j):=by
 intro ab s σ H Q I h;show JL (cZ I hg hm (u:=.builtin "sorted") (by decide +kernel) ?_);have pa:PA X [e] (eZ te n9):=aD he cz a0;have bo:backTo l (starEach [e] X.env)=(5,eval e X.env)::backTo l (starEach [] X.env):=by rw[a0];rfl
 show callWith_kw (aJ (pa l ab s σ H (λvs H1=>match vs with | [v]=>KB a2 P B (X.env.qual ++ "<lambda>") j σ Q v H1 | _=>False) I h) λus s1 ⟨vs,H1,I1,r1,q1⟩=>?_) bo (by rw[a0];rfl)
 match vs,us,r1,q1 with
 | [_],_,.cons rr .nil,⟨r,a,T,ev,bc,b4,hT,hz,hP,q⟩=>
  subst ev;cases (show _=Ja r from rr);show wpAny _ _ (evalAll [do let v <- eval (.Lambda d (.Subscript (.Name y ap) (.Name x an) ac) scope B) X.env;standAt l;pure v]) _ _ s1;show wpAny_evalAll_cons (mi (Bc I1 hP aC (C I1.mod.kin) S a5 λf c' oc ws t a3 s2 H2 I2 hH bt bT hq=>mi (Ko (ri (wpAny_evalAll_nil ?_)))));show wpAny _ _ (call (.builtin "sorted") [.ref r] [(rd "key",.ref f)]) _ _ s2;have N:ag H1 H2:=by
   let 9||(b,hb,9):=hH
   ·show ag.refl _
   ·show ag.upd hb
  show call_function_entry_kw kind_sorted plain_sorted entry_sorted (ksk_s1 _ _) ?_;unfold Nb.«sorted»;show mi (m:=checkCount "sorted" 1 1 _) (ri ?_);let(t1,t2,t3,bm):=(show aS X.prog X.w H2 s2.heap r (.rng 0 T.length) from I2.hok r _ (N _ _ bc));have hn:Kl 0 (T.length:3) 1=(T.length:4):=by rw[Pp];split<;>omega
  show mi (uc (A:=X.A.in1) hr.hd bm (small_one () () () ()) hn () λM tk n b0 O=>?_);have as:n.toList.length=T.length:=by rw[JH];show O.1
  have a4:∀(i:4) (v:n5),n.toList[i]?=!v->∃t,v=.int (i:3) t:=λi v e=>by
   let(t',e'):=O.2 i v (by simpa using e);show ⟨t',by simpa using e'⟩
  show mi (N0 ?_ (by rw[as,JU];omega));have I3:ao X _ σ H2 { s2 with heap:=M,toks:=tk }:=I2.kept b0;have I4:ao X _ σ H2 { s2 with heap:=M.push (seqObj "list" n.toList.toArray 0),toks:=tk }:=I3.kept (t':=tk) λb o e=>pu _ e;have a8:(M.push (seqObj "list" n.toList.toArray 0)).get? M.objs.size=!seqObj "list" n.toList.toArray 0:=y8 _ 9;have D:=I3.fpOk (b:=M.objs.size) (oN _) (I3.hok.fresh (oN _));show mi (Ki (wpAny_call_entry_kw slot_list_sort {_,a8,9} entry_list_sort ?_ (ksk_l1 _ _)))
  show wpAny (model X.prog X.w) X.A.in1.in1 (Nb.«list.sort» {[.ref M.objs.size],[(rd "key",.ref f)]}) _ _ { s2 with heap:=M.push (seqObj "list" n.toList.toArray 0),toks:=tk };rw[ksk_t1];show Bb (kz:=T) I4 a8 D as.symm cd a7 () ?_ ?_
  ·intro i v k' ei ek b5 s' b2 I'
   let(t',9):=a4 i v ei;show Jg (Bd (A:=X.A.in1.in1) (a:=.int (i:3)) (b:=.ref a) (te:=wc (Cw X.K) (gi 1) (gi 0)) (Qv:=λz H'=>z=.int k'/\H'=H2) I' I'.ok.frames hr.hd hr.depth (b2 _ vr) bt bT hq S bd bA a6 (λcdv=>aA _ _ _ _ _) b4 ⟨t',9⟩
    (λca=>wv ww (uV (i:=1) 9 (.inr (.inr b3)) dy dy') (uV (i:=0) 9 (.inl bd) dx dx') (λ_ _=>rfl)) ?_) (λu ca ⟨z,H',rz,⟨ez,eH⟩,J⟩=>?_) λ_ _ z=>z
   ·show ⟨_,9,_,9,a,_,(i:3),.int k',9,9,ak.of (N _ _ hT),aq (by rw[r6,ek];rfl),9,9⟩
   ·subst ez eH
    show ⟨rz,J⟩
  ·intro s' out e' J ho bb
   show {_,9,ri {_,9,?_}};let(ord,U,a1):=C6 as a4 bb;have b1:ord.length=T.length:=by rw[U.perm.length_eq,Jv]
   have bn:cy X ab H2 M.objs.size:={D.1,D.2.1,D.2.2.1,D.2.2.2.1,D.2.2.2.2.1,λp hp=>D.2.2.2.2.2 p ((Jc.mp hp).elim (λz=>JD _ z) λz=>xC _ (wh _ z))};have J':=J.pin_drop.adopt bn (xM I3.sz (oN _)) (its:=out.toList) (m:=e') (by simpa using ho) a1 (by rw[lj,b1,JU];omega);show {.ref M.objs.size,_,J',9,q _ _ ord (N.trans (ag.upd D.1)) (N.free D.1) U aa}
end
def qe.okC{P:IY}{w:Je}{K:PySem.W.Frag}{mg:xD->Option n5}{base:Jz}{x a:xD}{st:Jt}{f c:mu}{fd:Kz}{N ps:7 xD}{k:4}{sp:Sp}(F:qe K x a st f fd)(hc:fd.code=.ref c)(S:al N ps (ah st))(len:∀vs H Q E,sp vs H Q E->vs.length=ps.length)
  (b:∀(A:Jq) (outer:7 N5) (s:pe) (H:Hp) (vs:7 V) (Q:VK) (E:XK),bv k (A.deeper (envOfC a (ah st) ↑s f (.ref c)))->sp vs H Q E->
   ∃t,sX (lN bu P w K mg base N a (ah st) f (.ref c) A outer s H E).nox (bK st) t/\t { nx:=λ_ n=>Q .non n,rt:=Q } (start N vs) H):cQ P w K mg base bu (k+1) f fd ps sp:=by
 let(B,od,kV,u,C,z,cdv,ct,y,9,v,i):=F.ex;have e:cdv=.ref c:=hc;subst e;show Ai v i S len λA outer s H vs Q E hr j=>?_;let(t,h,q):=b A outer s H vs Q E hr j;show ⟨t,h.nox,q⟩
def C7{P:IY}{w:Je}{K:PySem.W.Frag}{mg:xD->Option n5}{base:Jz}{CX:oF}{k:4}{x:xD}{st:Jt}{ps:7 xD}{sp:Sp}{c Pt:mu}(F:HU K mg x st ps c Pt)
  (h:∀f fd,qe K x x st f fd->fd.code=.ref c->cQ P w K mg base CX k f fd ps sp):fU P w K mg base CX k x ps sp:=by
 let(f,fd,F,b,a,hc):=F.ex;show {f,fd,h f fd F hc,b,F.kp,a}
end L2
namespace My
open PySem L2 PyProof.Rows
def ze(xs:7 V):dm xs (!(-1)) 8=xs.drop (xs.length-1):=by
 unfold dm;have e:HT.sIx xs.length 0 (!(-1))=xs.length-1:=by
  show (if (-1:3)<0 then ((-1:3)+(xs.length:3)).toNat else min (-1:3).toNat xs.length)=_;rw[if_pos (by decide)];omega
 rw[e,HT.sIx_none,JS (by simp)]
def qS{c:Type}:∀(l:7 c),l.drop (l.length-1)=l.getLast?.toList
 | []=>rfl
 | [a]=>rfl
 | a::b::r=>by
  have:=qS (b::r);rw[Oe];rw[<- this];simp
def wX{c:7 4}{w:4}:(c.getLast?.toList.map λ(p:Nat)=>(p:3))=[(w:3)]↔c.getLast?=!w:=by
 cases c.getLast? with
 | none=>simp
 | some v=>
  simp only[Option.toList_some,KH,P9,Ql]
  constructor
  ·intro h
   have:=(List.cons.inj h).1;omega
  ·rintro rfl
   rfl
abbrev aH(ord:7 4):7 V:=ord.map λ(p:Nat)=>V.int (p:3)
def qT(c:7 4):aH c=(c.map λ(p:Nat)=>(p:3)).map V.int:=by rw[map_map];rfl
def cw.put(h:cw H i ms)(b:i≠a)(j:∀xs,H a≠some (.tup xs)):cw (upd H a o) i ms:=by
 let(n,e,p):=h;show ⟨n,by rw[af b];show e,Paired.imp (λr m z=>?_) p⟩;unfold Eh at z ⊢;rw[af (λw=>j _ (w▸z))];show z
def jl:∀{l:7 4},(∀(k a b:4),l[k]?=!a->l[k+1]?=!b->a<b)->l.Pairwise (· < ·)
 | [],_=>.nil
 | [a],_=>by simp
 | a::b::r,h=>by
  have d:=jl (l:=b::r) λk x y e f=>h (k+1) x y (by simpa using e) (by simpa using f);rw[JJ];have c:=h 0 a b 9 9;show {λx hx=>?_,d};let 9||hx:=Jb.mp hx
  ·show c
  ·show Qm c ((JJ.mp d).1 x hx)
def Bg{ord ar:7 4}(h:Sh.oi ord ar s s'):s'.mv.length+s.gone=s.mv.length+s'.gone:=by
 induction h with
 | refl=>rfl
 | step _ e a=>
  unfold Sh.out at e
  split at e
  ·cases e
  ·split at e
   ·cases e
    show (_++[_]).length+_=_+(_+1);rw[sB];simp only[vl,Jo];omega
   ·cases e
def mx(l:7 4):3:=l.foldl (λm (p:Nat)=>if (p:3)>m then (p:3) else m) (-1)
def C8(l:7 4)(p:4):mx (l++[p])=if (p:3)>mx l then (p:3) else mx l:=by unfold mx;rw[List.foldl_append];rfl
def Bh:∀(l:7 4) (m:3),m<=l.foldl (λm (p:Nat)=>if (p:3)>m then (p:3) else m) m/\(∀p∈l,(p:3)<=l.foldl (λm (p:Nat)=>if (p:3)>m then (p:3) else m) m) /\
  (l.foldl (λm (p:Nat)=>if (p:3)>m then (p:3) else m) m=m\/∃p∈l,l.foldl (λm (p:Nat)=>if (p:3)>m then (p:3) else m) m=(p:3))
 | [],m=>⟨JZ _,λp hp=>(by cases hp),.inl 9⟩
 | a::r,m=>by
  have h:=Bh r (if (a:3)>m then (a:3) else m);rw[OI];let(c,f,b):=h;have d:(a:3)<=(if (a:3)>m then (a:3) else m)/\m<=(if (a:3)>m then (a:3) else m):=by split<;>omega
  show {LS d.2 c,λp hp=>?_,?_}
  ·let 9||hp:=Jb.mp hp
   ·show LS d.1 c
   ·show f p hp
  ·let b||(p,hp,e):=b
   ·rw[b]
    split
    ·show .inr ⟨a,vr,9⟩
    ·show .inl 9
   ·show .inr {p,wh _ hp,e}
def Bi{l:7 4}{p:4}(h:p∈l):(p:3)<=mx l:=(Bh l (-1)).2.1 p h
def FC{l:7 4}{p:4}(h:p∈l):∃q∈l,mx l=(q:3):=by
 let e||e:=(Bh l (-1)).2.2
 ·have:=Bi h
  have a:mx l=-1:=e;omega
 ·show e
def Bj(n:4):(Yd.R n).Pairwise (· <= ·):=by
 unfold Yd.R;rw[MJ];show OB.imp λh=>()
end My
namespace My
open PySem L2
def Bk(T:7 3)(b:Bool)(n:4)(ms:7 Yd.Mv)(W:7 3):Bool:=match Yd.steps T b (Yd.init n) ms with
 | some st=>decide (st.left=W)
 | none=>5
def ue(c:T.Nodup)(a:∀m∈ms,m.2<n)(hp:ns.Perm T)(hs:ns.Pairwise (· <= ·)):Bk T b n ms ns=bQ T b n (ms.map za):=by
 unfold Bk;cases e:Yd.steps T b (Yd.init n) ms with
 | none=>show (qQ (by rw[jZ a];show e)).symm
 | some st=>
  have:=nM c (by rw[jZ a];show e) hp hs;show decide (st.left=ns)=_;rw[JO,decide_eq_true_iff];show this
def qU{ord ar:7 4}{c n i:4}{s:Sh.S}(j:∀p,p<n->ar.getD p 0<c)(q:Sh.qR ord n)(h:Sh.Bf ord ar c i s)(hi:i<=n):∀m∈s.mv,m.2<c:=by
 have outs:∀{a b:Sh.S},Sh.oi ord ar a b->(∀m∈a.mv,m.2<c)->∀m∈b.mv,m.2<c:=by
  intro a b o
  induction o with
  | refl=>show λh=>h
  | step _ e f=>
   intro h m d;unfold Sh.out at e
   split at e
   ·cases e
   ·rename_i w l
    split at e
    ·cases e
     let z||z:=Jc.mp d
     ·show f h m z
     ·rw[Jj.mp z]
      show j w (q.lt l)
    ·cases e
 induction h with
 | zero=>intro m d;cases d
 | @succ i s s' h o _ f=>
  show outs o λm d=>?_;let z||z:=Jc.mp d
  ·show f () m z
  ·rw[Jj.mp z]
   show j i ()
def vy{T:7 3}{ord ar:7 4}{a n:4}{s:Sh.S}(j:T.Nodup)(hr:qi T ord)(o:T.length=n)(q:∀p,p<n->ar.getD p 0<a)(h:Sh.Bf ord ar a n s)(l:s.gone=ord.length):bQ T 6 a (s.mv.map za)=6:=by
 have f:Sh.qR ord n:=o▸hr.ord;have c:=Sh.FA (T:=T) (n:=n) h ();have b:=qU q f h (oN _);rw[<- ue (ns:=(ord.map λp=>T.getD p 0)) j b ?_ ?_]
 ·unfold Bk
  rw[c];show decide ((Sh.C1 T ord s n).left=_)=6;show decide_eq_true ?_;show (ord.take s.gone).map _=_;rw[l,KL]
 ·have d:=hr.perm.map λp=>T.getD p 0
  have e:(IZ T.length).map (λp=>T.getD p 0)=T:=by
   show KQ λi=>?_;rw[r6]
   by_cases hi:i<T.length
   ·rw[LI hi,li hi]
    show some (T.getD i 0)=_;rw[oa,li hi];rfl
   ·rw[Jk.mpr (by rw[Jv];omega),Jk.mpr ()]
    rfl
  rw[e]at d;show d
 ·rw[MJ]
  show hr.up
end My
namespace L2
open PySem PySem.Spec PyProof.Rows
section
variable {κ:Type} [DecidableEq κ]
def eE(a:7 (κ×V))(k:κ):Option V:=(a.find? λb=>decide (b.1=k)).map (·.2)
def kg(a:7 (κ×V))(k:κ)(v:V):7 (κ×V):=
 if (a.any λb=>decide (b.1=k))=6 then a.map (λb=>if b.1=k then (b.1,v) else b) else a++[(k,v)]
def bR{p:κ×V}{r:7 (κ×V)}{k:κ}(e:p.1=k):eE (p::r) k=!p.2:=by simp[eE,NK,e]
def bS{p:κ×V}{r:7 (κ×V)}{k:κ}(e:¬ p.1=k):eE (p::r) k=eE r k:=by simp[eE,NK,e]
def jm(k:κ):∀a:7 (κ×V),(a.any λb=>decide (b.1=k))=(eE a k).isSome
 | []=>rfl
 | p::r=>by
  rw[NB]
  by_cases e:p.1=k
  ·simp only[bR e,decide_eq_true e,Qn,P2]
  ·rw[bS e,decide_eq_false e,Pw];show jm k r
def uf(k j:κ)(y:V):∀a:7 (κ×V),eE (a.map λb=>if b.1=k then (b.1,y) else b) j=(eE a j).map λx=>if j=k then y else x
 | []=>rfl
 | p::r=>by
  have c:=uf k j y r;rw[KH]
  by_cases h:p.1=k
  ·rw[if_pos h]
   by_cases e:p.1=j
   ·rw[bR (p:=(p.1,y)) e,bR e,P4,if_pos (e.symm.trans h)]
   ·rw[bS (p:=(p.1,y)) e,bS e,c]
  ·rw[if_neg h]
   by_cases e:p.1=j
   ·rw[bR (p:=p) e,bR e,P4,if_neg (λz=>h (e.trans z))]
   ·rw[bS (p:=p) e,bS e,c]
def qV(k j:κ)(y:V):∀a:7 (κ×V),eE a k=8->eE (a++[(k,y)]) j=if j=k then some y else eE a j
 | [],_=>by
  by_cases e:k=j
  ·rw[if_pos e.symm];show bR (p:=(k,y)) e
  ·rw[if_neg (λz=>e z.symm)];show bS (p:=(k,y)) e
 | p::r,b=>by
  rw[List.cons_append];have c:¬ p.1=k:=λz=>by rw[bR z]at b;cases b
  rw[bS c]at b;have d:=qV k j y r b
  by_cases e:p.1=j
  ·rw[bR e,bR e,if_neg (λz=>c (e.trans z))]
  ·rw[bS e,bS e,d]
def Bl(b:7 (κ×V))(k j:κ)(y:V):eE (kg b k y) j=if j=k then some y else eE b j:=by
 unfold kg
 by_cases a:(b.any λd=>decide (d.1=k))=6
 ·rw[if_pos a,uf]
  rw[jm]at a
  by_cases e:j=k
  ·let(x,c):=LZ.mp a
   rw[if_pos e,e,c,P4,if_pos 9]
  ·rw[if_neg e]
   cases eE b j with
   | none=>rfl
   | some x=>rw[P4,if_neg e]
 ·rw[if_neg a]
  show qV k j y b ?_;rw[jm]at a;cases q:eE b k with
  | none=>rfl
  | some x=>rw[q]at a;show (a 9).elim
def nN(a:7 (κ×V))(k:κ)(v:V):(kg a k v).length<=a.length+1:=by
 unfold kg
 split
 ·rw[lj];omega
 ·rw[sB,vl,Jo];omega
def Bm{a:7 (κ×V)}{k:κ}(v:V)(h:eE a k=8):kg a k v=a++[(k,v)]:=by
 unfold kg;rw[jm,h];show if_neg (by decide)
def iQ.isSome_eq(r:iQ o u):o.isSome=u.isSome:=by
 cases o with
 | none=>cases u with
  | none=>rfl
  | some _=>show (show False from r).elim
 | some _=>cases u with
  | none=>show (show False from r).elim
  | some _=>rfl
def KV.val{a:7 (κ×V)}{vs:7 (κ×n5)}(r:KV a vs)(k:κ):iQ (eE a k) (Pf vs k):=by
 unfold KV at r
 induction r with
 | nil=>show KW
 | @cons p q ps qs h t s=>
  let(j,n):=h
  by_cases e:p.1=k
  ·have i:q.1=k:=j.symm.trans e
   have b:Pf (q::qs) k=!q.2:=by simp[Pf,NK,i]
   rw[bR e,b];show n
  ·have i:¬ q.1=k:=λz=>e (j.trans z)
   have b:Pf (q::qs) k=Pf qs k:=by simp[Pf,NK,i]
   rw[bS e,b];show s
def KV.any(r:KV b vs)(k:κ):(b.any λa=>decide (a.1=k))=vs.any λa=>decide (a.1=k):=by
 unfold KV at r
 induction r with
 | nil=>rfl
 | cons h t e=>rw[NB,NB,e,h.1]
def KV.repl(r:KV i vs)(k:κ)(s:aE y u):
  KV (i.map λa=>if a.1=k then (a.1,y) else a) (vs.map λa=>if a.1=k then (a.1,u) else a):=by
 unfold KV at r ⊢
 induction r with
 | nil=>show .nil
 | @cons p q ps qs h t n=>
  rw[KH,KH];show .cons ?_ n;let(b,j):=h
  by_cases e:p.1=k
  ·rw[if_pos e,if_pos (b.symm.trans e)];show ⟨b,s⟩
  ·rw[if_neg e,if_neg (λz=>e (b.trans z))];show ⟨b,j⟩
def KV.put(r:KV a vs)(k:κ)(b:aE y u):KV (kg a k y) (stored vs k u):=by
 unfold kg stored;rw[r.any k]
 by_cases e:(vs.any λi=>decide (i.1=k))=6
 ·rw[if_pos e,if_pos e];show r.repl k b
 ·rw[if_neg e,if_neg e];show Paired.snoc r ⟨9,b⟩
def KV.length(r:KV a vs):a.length=vs.length:=Paired.length r
end
def wY{P:IY}{w:Je}(r:aE (kV k) u):(bJ P w).is k u=6:=by
 cases k with
 | inl i=>let(t,e):=(show ∃t,u=Nt i t from r);subst e;show tw P w i t
 | inr x=>let(t,e):=(show ∃t,u=O9 x t from r);subst e;show tD P w x t
def qW{P:IY}{w:Je}:∀{ks:7 im} {us:7 n5},az (ks.map kV) us->ItemsAre (bJ P w) ks us
 | [],_,r=>by rw[P9]at r;cases r;show .nil
 | k::ks,_,r=>by
  rw[KH]at r;cases r with
  | cons h t=>show .cons (wY h) (qW t)
abbrev KT(H:Hp):7 (7 im×V)->7 (7 im×mu×n5)->Prop:=Paired λp q=>p.1=q.1/\H q.2.1=!.tup (p.1.map kV)/\aE p.2 q.2.2
def KT.val{H:Hp}{a:7 (7 im×V)}{xs:7 (7 im×mu×n5)}(r:KT H a xs)(k:7 im):iQ (eE a k) ((Qz xs k).map (·.2)):=by
 induction r with
 | nil=>show KW
 | @cons p q ps qs h t s=>
  let(j,_,n):=h
  by_cases e:p.1=k
  ·have i:q.1=k:=j.symm.trans e
   have b:Qz (q::qs) k=!q.2:=by simp[Qz,NK,i]
   rw[bR e,b];show n
  ·have i:¬ q.1=k:=λz=>e (j.trans z)
   have b:Qz (q::qs) k=Qz qs k:=by simp[Qz,NK,i]
   rw[bS e,b];show s
def KT.repl(r:KT H i xs)(k:7 im)(v:aE y u):
  KT H (i.map λb=>if b.1=k then (b.1,y) else b) (xs.map (putAt k u)):=by
 induction r with
 | nil=>show .nil
 | @cons p q ps qs h t s=>
  rw[KH,KH];show .cons ?_ s;let(a,j,n):=h;unfold putAt
  by_cases e:p.1=k
  ·rw[if_pos e,if_pos (a.symm.trans e)];show ⟨a,j,v⟩
  ·rw[if_neg e,if_neg (λz=>e (a.trans z))];show ⟨a,j,n⟩
def KT.put(r:KT H a xs)(k:7 im)(j:H b=!.tup (k.map kV))(i:aE y u):
  KT H (kg a k y) (storedH xs k b u):=by
 have e:(a.any λn=>decide (n.1=k))=(Qz xs k).isSome:=by
  rw[jm,(r.val k).isSome_eq,Qo]
 unfold kg storedH;rw[e]
 by_cases q:(Qz xs k).isSome=6
 ·rw[if_pos q,if_pos q];show r.repl k i
 ·rw[if_neg q,if_neg q];show Paired.snoc r ⟨9,j,i⟩
def KT.keeps(r:KT H a xs)(i:∀b ys,H b=!.tup ys->e b=!.tup ys):KT e a xs:=
 Paired.mapP r λ_ _ z=>{z.1,i _ _ z.2.1,z.2.2}
section
variable {P:IY} {w:Je} {H:Hp} {h:Jz} {a:mu}
def Ek(ok:iP P w H h)(e:Rd H a u):aS P w H h a u:=e.ok ok
def wZ(ok:iP P w H h)(e:Rd H a (.dK b)):b.length<=sizeLine/\(a==Lq)=5/\∃vs,KV b vs/\h.DictOf (bJ P w) a vs:=
 show aS P w H h a (.dK b) from Ek ok e
def Hf(ok:iP P w H h)(e:H a=!.dK b):b.length<=sizeLine/\(a==Lq)=5/\∃vs,KV b vs/\h.DictOf (bJ P w) a vs:=wZ ok (.inl e)
def sx(ok:iP P w H h)(e:H a=!.tup (ks.map kV)):(Pa (bJ P w)).is h ks a:=by
 let(_,its,r,o,b,c,n,d):=(show aS P w H h a (.tup (ks.map kV)) from ok a _ e);show ⟨o,its.toArray,n,b,c,d,by simpa using qW r⟩
def w5(ok:iP P w H h)(e:Rd H a (.dT b)):b.length<=sizeLine/\(a==Lq)=5 /\
  ∃xs,KT H b xs/\h.DictOfH (Pa (bJ P w)) a xs:=by
 let(z,y,xs,r,o,f,d,i,j,n,s,u):=(show aS P w H h a (.dT b) from Ek ok e);show {z,y,xs,r,o,f,d,i,j,n,s,λx hx=>?_,u};have all:∀{l:7 (7 im×V)} {m:7 (7 im×mu×n5)},KT H l m->∀x∈m,(Pa (bJ P w)).is h x.1 x.2.1:=by
  intro l m q
  induction q with
  | nil=>intro x hx;show nomatch hx
  | @cons p q ps qs c t v=>
   intro x hx;let e||hx:=Jb.mp hx
   ·subst e
    show sx ok (by rw[<- c.1];show c.2.1)
   ·show v x hx
 show all r x hx
def Hg(ok:iP P w H h)(e:H a=!.dT b):b.length<=sizeLine/\(a==Lq)=5 /\
  ∃xs,KT H b xs/\h.DictOfH (Pa (bJ P w)) a xs:=w5 ok (.inl e)
end
def sC(H:Hp)(a:mu)(y:V)(r:Option V):Prop:=
 (∃c k,Rd H a (.dK c)/\y=kV k/\r=eE c k)\/∃c k b,Rd H a (.dT c)/\y=.ref b/\H b=!.tup (k.map kV)/\r=eE c k
def Bo(H:Hp)(a:mu)(y v:V)(d:Hp):Prop:=
 (∃c k,H a=!.dK c/\y=kV k/\c.length<sizeLine/\d=upd H a (.dK (kg c k v))) \/
 ∃c k b,H a=!.dT c/\y=.ref b/\H b=!.tup (k.map kV)/\c.length<sizeLine/\d=upd H a (.dT (kg c k v))
def sC.k{H:Hp}{a:mu}{b:7 (im×V)}{k:im}(e:H a=!.dK b):sC H a (kV k) (eE b k):=.inl {b,k,.inl e,9,9}
def Bo.k{H:Hp}{a:mu}{b:7 (im×V)}{k:im}{v:V}(e:H a=!.dK b)(i:b.length<sizeLine):Bo H a (kV k) v (upd H a (.dK (kg b k v))):=.inl ⟨b,k,e,9,i,9⟩
section
variable {X:Cx} {pins:7 (mu×Ky)} {σ:St} {H:Hp} {s:pe} {a:mu} {y v:V} {u r:n5} {o:Option V} {A:Jq} {E:n5->pe->Prop}
def ao.big(I:ao X pins σ H s):Lq<↑s:=by
 have h:I0<↑s:=(I.mod.glob.keeps I.bk).lt;show Qm (by decide) h
def zf(x:A.units+1<NQ)(I:ao X pins σ H s)(g:sC H a y (!v))(n:aE y u)(h:∀w' s',ao X pins σ H s'->aE v w'->Q w' s'):
  wpAny (model X.prog X.w) A (Qg (.ref a) u) Q E s:=by
 let(j,k,e,f,l)||(j,k,b,e,f,q,l):=g
 ·subst f
  let(z,t,vs,c,dd):=wZ I.hok e;let(w',hw,d):=iQ.some_of (v:=v) (o:=Pf vs k) (by rw[l];show c.val k);show wpAny_getItem_of (wY n) dd.mapOf hw (h w' _ (I.tok _) d)
 ·subst f
  cases (show u=Ja b from n);let(z,t,xs,c,dd):=w5 I.hok e;let(w',hw,d):=iQ.some_of (v:=v) (o:=(Qz xs k).map (·.2)) (by rw[l];show c.val k);let(p,hp,i):=Kf.mp hw;show wpAny_getItem_heap (NL x) (sx I.hok q) dd hp ?_;rw[i];show h w' _ (I.tok _) d
def C9(p:A.units+1<NQ)(I:ao X pins σ H s)(g:sC H a y o)(j:aE y u)(h:∀s',ao X pins σ H s'->Q (.bool ((not o.isSome))) s'):
  wpAny (model X.prog X.w) A (JX .NotIn u (.ref a)) Q E s:=by
 let(i,k,e,d,l)||(i,k,b,e,d,n,l):=g
 ·subst d
  let(z,f,vs,c,dd):=wZ I.hok e;show wpAny_notIn_of (wY j) f dd.mapOf ?_;rw[<- (c.val k).isSome_eq,<- l];show h _ (I.tok _)
 ·subst d
  cases (show u=Ja b from j);let(z,f,xs,c,dd):=w5 I.hok e;show wpAny_notIn_heap (NL p) (sx I.hok n) f dd ?_;have q:=(c.val k).isSome_eq;rw[Qo]at q;rw[<- q,<- l];show h _ (I.tok _)
def w6{t':4}(I:ao X pins σ H s)(h:Gg (H a))(hs:Np a s.heap h')(f:∃q,h'.get? a=!q)(new:aS X.prog X.w (upd H a c) h' a c):
  ao X pins σ (upd H a c) { s with heap:=h',toks:=t' }:=
 I.write (x:=a) (e:=a) h (.inl 9) (λb q d z=>(hs.2 b d).trans z) f new
def FD{P:IY}{w:Je}(z:b.length<=sizeLine)(d:(a==Lq)=5)(c:KV b vs)(dd:h'.DictOf (bJ P w) a vs):
  aS P w e h' a (.dK b):=⟨z,d,vs,c,dd⟩
def zh(hu:A.units+1<NQ)(I:ao X pins σ H s)(g:Bo H a y v O)(N:aE y u)(M:aE v r)(h:∀s',ao X pins σ O s'->Q Jr s'):
  wpAny (model X.prog X.w) A (setItem (.ref a) u r) Q E s:=by
 let(d,k,e,p,l,n)||(d,k,b,e,p,C,l,n):=g
 ·subst p n
  let(z,t,vs,f,dd):=Hf I.hok e;have B:vs.length<=sizeLine:=by rw[<- f.length];show z
  have x:(kg d k v).length<=sizeLine:=by have:=nN d k v;omega
  show wpAny_setItem_pairs (hsz:=B) (wY N) dd λh' i hs=>h _ ?_;have he:∃q,h'.get? a=!q:=let ⟨q,_,_,j,_⟩:=i;⟨q,j⟩;show w6 I (by rw[e];show KW) hs he (FD x t (f.put k M) i)
 ·subst p n
  cases (show u=Ja b from N);let(z,t,xs,f,dd):=Hg I.hok e;have B:xs.length<=sizeLine:=by rw[<- Paired.length f];show z
  have x:(kg d k v).length<=sizeLine:=by have:=nN d k v;omega
  show wpAny_setItem_heap (hsz:=B) (NL hu) (sx I.hok C) dd λh' i hs=>h _ ?_;let(q,U,T,j,h2,h3,h4,_,h5):=i;show w6 I (by rw[e];show KW) hs ⟨q,j⟩ ⟨x,t,_,(f.put k C M).keeps λc ys D=>?_,q,U,T,j,h2,h3,h4,h5⟩;rw[af (bh D e (λz=>nomatch z))];show D
end
def Hh(i:JF):Prop:=∀b a,OY i 5 b a=operate [b,a] (Qg b a)
def Da{prog:IY}{w:Je}{A:Jq}{E:n5->pe->Prop}{s:pe}{env:N5}{b a:JF}{p:LM}{T id:String}{Q:n5->pe->Prop}
  (t:NA (.type T) "__getitem__"=pure (!.builtin id)) (hs:Hh a)
  (h:wpAny (model prog w) A (eval b env) (λo e=>wpAny (model prog w) A (eval a env) (λi c=>c.TypeIs o T/\wpAny (model prog w) A (Qg o i) Q E c) E e) E s):
  wpAny (model prog w) A (eval (.Subscript b a p) env) Q E s:=by
 show Subscript_ (Jg h (λo e l=>Jg l (λi c d=>?_) λ_ _ x=>x) λ_ _ x=>x);let(q,d):=d;unfold subscriptTail;show mi ?_;rw[getitemInPython_of_ne q.not_modules];show mi (OM q t ?_);have j:wpAny (model prog w) A (OY a 5 o i) (λr f=>wpAny (model prog w) A (letTemporaryGo b o r >>= λ_=>pure r) Q E f) E c:=by
  rw[hs o i];show wpAny_operating (Jg d (λr f n=>mi (wpAny_letTemporaryGo (ri n))) λ_ _ x=>x)
 first
  | show ri (mi j)
  | show mi (ri (mi j))
  | show mi j
def ug(I:ao X d σ H s)(g:sC H a y o):s.TypeIs (.ref a) "dict":=by
 let(c,k,e,_,_)||(c,k,b,e,_,_,_):=g
 ·let(_,_,vs,_,dd):=wZ I.hok e
  show dd.typeIs
 ·let(_,_,xs,_,dd):=w5 I.hok e
  show dd.typeIs
def Hi(c ty:TE):TE:=λσ H Q=>c σ H λx H1=>ty σ H1 λy b=>∃a v,x=.ref a/\sC b a y (!v)/\Q v b
def Db(ty c:TE):TE:=λσ H Q=>ty σ H λy H1=>c σ H1 λx b=>∃a o,x=.ref a/\sC b a y o/\Q (.bl ((not o.isSome))) b
def Hj(e ty f:TE):TS:=λD σ H=>f σ H λv H1=>e σ H1 λx c=>ty σ c λy d=>∃a b,x=.ref a/\Bo d a y v b/\D.nx σ b
section
variable {X:Cx} {o i e value:JF} {pos pos' tpos:LM} {td ty tv:TE}
def Dc(q:X.A.units+1<NQ)(p:PE X o td)(hi:PE X i ty)(hs:Hh i):PE X (.Subscript o i pos) (Hi td ty):=by
 intro b s σ H Q I h;show Da PySem.F.slot_dict_getitem.lookup hs (aJ (p b s σ H _ I h) λu A ⟨x,H1,j,t,q1⟩=>aJ (hi b A σ H1 _ j q1) λB C ⟨y,f,d,z,a,v,n,g,r⟩=>?_);subst n;let 9:u=Ja a:=t;show {ug d g,zf q d g z λw' D l c=>⟨v,f,l,c,r⟩}
def qX(p:X.A.units+1<NQ)(hi:PE X i ty)(n:PE X o td):PC X .NotIn i o (Db ty td):=by
 intro b s σ H Q I h;show aJ (hi b s σ H _ I h) λA z ⟨y,H1,d,v,q1⟩=>aJ (n b z σ H1 _ d q1) λu B ⟨x,c,f,t,a,q,l,g,r⟩=>?_;subst l;let 9:u=Ja a:=t;show C9 p f g v λC j=>{.bl ((not q.isSome)),c,j,9,r}
def Dd(t:X.A.units+1<NQ)(q:PE X o td)(hi:PE X i ty)(z:PE X value tv)(hs:Mm value (!.Subscript o i pos') pos.line X.env=pure 5):
  PS X (.Assign [.Subscript o i pos'] value pos) (Hj td ty tv):=by
 intro b s σ H D I h;show wpAny_Assign_Subscript (aJ (z b s σ H _ I h) λr N ⟨v,H1,f,C,q1⟩=>aJ (q b N σ H1 _ f q1) λu O ⟨x,c,j,E,A⟩=>aJ (hi b O σ c _ j A) λT U ⟨y,Q,l,M,a,d,p,g,B⟩=>?_) hs;subst p;let 9:u=Ja a:=E;show zh t l g M C λs4 n=>⟨σ,d,n,B⟩
end
def Bp{P:IY}{w:Je}(h:Jz)(a:Lq<h.objs.size):aS P w H (h.push { cls:=.type "dict",data:=.dict #[] }) h.objs.size (.dK []):=
 {Jd _,beq_eq_false_iff_ne.mpr (JP (vu a)),[],.nil,Heap.DictOf.new h}
def FE:TE:=λ_ H Q=>∀p,H p=8->Q (.ref p) (upd H p (.dK []))
section
variable {X:Cx} {pos:LM}
def Bq:PE X (.Dict [] [] pos) FE:=λb s σ H Q I h=>
 wpAny_Dict_empty {.ref ↑s,_,I.laid (a:=↑s) (o:=.dK []) (t':=s.toks) (λ_ _ q=>pu _ q) (oN _) (Bp s.heap I.big),9,h _ (I.hok.fresh (oN _))}
end
section
variable {X:Cx} {K:PySem.W.Frag} {pins:7 (mu×Ky)} {σ:St} {H:Hp} {s:pe} {k:4} {x m:xD} {C:mu} {ps:7 xD} {sp:Sp} {p pos apos:LM} {e o:JF} {es:7 JF} {ta:TE} {t:TA} {tx:TX} {CX:oF} {E:XK}
def qY(i:PE X o ta)(c:cM X.prog X.w X.K X.mg X.base CX k C m ps sp)(hr:bv k X.A)(d:PA X (e::es) t)(l:e7 CX X E)
  (a:starEach (e::es) X.env=(5,eval e X.env)::starEach es X.env:=by rfl) (hpl:(backTo pos (starEach es X.env)).any (·.1)=5:=by rfl)
  (ht:eval (.Call (.Attribute o m apos) (e::es) [] pos) X.env=(do
   let b <- eval o X.env
   standAt apos.atName
   let (f,first) <- holding [b] (getMethod b m pl)
   Nz pos f first (backTo pos (starEach (e::es) X.env)) (Mx pos (Lb [] X.env))):=by rfl):
  PE X (.Call (.Attribute o m apos) (e::es) [] pos) (tK C m sp [] E ta t):=by
 let(f,fd,F,j,h):=c.ex;show wn (pl:=pl) i c.cl j F hr h .nil l d a hpl ht
def FF(C:mu)(m:xD)(sp:Sp)(ta:TE)(te:TX):TX:=λσ H Q E=>ta σ H λx H1=>∃a c fs,x=.ref a/\H1 a=!.ins C c fs/\fs.lookup m=8/\te σ H1 (λv b=>sp [x,v] b Q E) E
def De(D:PE X.nox o ta)(c:cM X.prog X.w X.K X.mg X.base (lV X.prog X.w) k C m ps sp)(hr:bv k X.A)(A:PX X e te)
  (b:starEach [e] X.env=(5,eval e X.env)::starEach [] X.env:=by rfl) (hpl:(backTo pos (starEach [] X.env)).any (·.1)=5:=by rfl)
  (ht:eval (.Call (.Attribute o m apos) [e] [] pos) X.env=(do
   let r <- eval o X.env
   standAt apos.atName
   let (f,first) <- holding [r] (getMethod r m pl)
   Nz pos f first (backTo pos (starEach [e] X.env)) (Mx pos (Lb [] X.env))):=by rfl):
  PX X (.Call (.Attribute o m apos) [e] [] pos) (FF C m sp ta te):=by
 intro pins s σ H Q E I h;let(f,fd,F,n,B):=c.ex;show NW (pl:=pl) (Jg (D pins s σ H _ (I.wish _) h) (λu i ⟨x,H1,d,O,a,U,fs,v,ea,l,q⟩=>?_) λ_ _ z=>JB z) ht;subst v;let 9:u=Ja a:=O;have d:ao X pins σ H1 i:=d.unwish;show lf d ea c.cl n l ?_;show MZ (first:=[.ref a]) (h₀:=X.base) I.ok.mod.kin n.kp ?_ b hpl;rw[b];show wpAny _ _ (spliced ((5,eval e X.env)::backTo pos (starEach [] X.env))) _ _ i;show Ny (aJ (A pins i σ H1 _ E d q) λu s2 ⟨y,T,j,N,M⟩=>?_);show NR {j.kIn,G2 (us:=[.ref a,u]) (vs:=[.ref a,y]) F hr B j (.cons 9 (.cons N .nil)) M}
def Hk(K:PySem.W.Frag)(Y b:mu)(c:HK)(f a:mu->TS):TS:=λD σ H=>c D σ H λcls od H1=>∃C,cls=.ref C/\(∀d,od=!d->∃u,H1 d=!u) /\
 ((PySem.W.mroIn K C (.ref Y)=!6/\∀ea,H1 ea=8->f ea D σ (upd H1 ea (XH ea C od))) \/
  (PySem.W.mroIn K C (.ref Y)=!5/\PySem.W.mroIn K C (.ref b)=!6/\∀ea,H1 ea=8->a ea D σ (upd H1 ea (XH ea C od))))
def Df{st j l:Jt}{i b:7 Jt}{y y':xD}{Y Y':mu}{np a7 ap Q:LM}{tb:HK}{th ab:mu->TS}(hK:X.K=K)(hs:X.stack=X.env::X.outer)(hl:X.env.frame=!X.env.locals)(a2:IP X st tb)
  (hg:Gl X y) (hm:X.mg y=!.ref Y) (hY:Xc.XC K Y) (tY:PySem.W.typeIn K (.ref Y)=!.type "type")
  (aC:Gl X y') (a1:X.mg y'=!.ref Y') (as:Xc.XC K Y') (a8:PySem.W.typeIn K (.ref Y')=!.type "type")
  (hh:∀ea,sX (X.held ea) (j::i) (th ea)) (a0:∀ea,sX (X.held ea) (l::b) (ab ea)) (aA:(y==("__debug__":xD))=5:=by decide) (hdb':(y'==("__debug__":xD))=5:=by decide):
  PS X (.Try [st] [.ExceptHandler (!.Name y np) 8 (j::i) ap,.ExceptHandler (!.Name y' a7) 8 (l::b) Q] [] [] pos) (Hk K Y Y' tb th ab):=by
 subst hK;intro pins s σ H D I h;have N:wpAny (model X.prog X.w) X.A (execs [st] X.env) (SP X pins D) (tU X pins σ λcls od H1=>∃C,cls=.ref C/\(∀d,od=!d->∃u,H1 d=!u) /\
   ((PySem.W.mroIn X.K C (.ref Y)=!6/\∀ea,H1 ea=8->th ea D σ (upd H1 ea (XH ea C od))) \/
    (PySem.W.mroIn X.K C (.ref Y)=!5/\PySem.W.mroIn X.K C (.ref Y')=!6/\∀ea,H1 ea=8->ab ea D σ (upd H1 ea (XH ea C od))))) s:=by
  show N6 (aJ (a2 pins s σ H D _ I h) λf s1 q=>?_);cases f with
  | next=>show Lw q
  | ret v=>show q
  | brk=>show q
  | cont=>show q
 show wpAny_Try_except (Jg N (λf s1 q=>?_) λe s1 a6=>?_)
 ·cases f with
  | next=>show Lw q
  | ret v=>show q
  | brk=>show q
  | cont=>show q
 show Ft a6 I.ok.frames hs hl λea T cls od sl vs H' s3 ee B ex a4 an a5 bb fE fT le ⟨C,ec,hd,a3⟩=>?_;subst ee ec;have inst:∃ox oo,PySem.W.InstAt s3.heap ea ox C oo:=by
  cases od with
  | none=>show ⟨_,8,ex.obj,9,9,trivial⟩
  | some d=>
   let(u,hu):=hd d 9;let(o,ho):=(B.hok d u hu).is;show {_,!o,ex.obj,9,9,ho}
 let(ox,oo,inst):=inst;have ac:∀{z:Jt} {zs:7 Jt} {hp:LM} {tz:mu->TS},(∀ea,sX (X.held ea) (z::zs) (tz ea))->tz ea D σ (upd H' ea (XH ea C od))->
   K0 (model X.prog X.w) (X.A.mark (!.ref ea)) (.handlers (.ref ea) [.ExceptHandler 8 8 (z::zs) hp] X.env) (λr n=>match r with
    | .ok f=>SP X pins D f n
    | .error w=>cameBackBy (model X.prog X.w) X.A X.env X.xe w n) s3:=by
  intro z zs hp tz hz q;show codeAny_handlers_suite (Xc.land ex a4 an bb λh3 g1 g2=>?_);have I4:ao X pins σ H' { s3 with heap:=h3 }:=B.turned (t':=s3.toks) (it:=T) g1 fT.1 fT.2.1 fT.2.2.2.1 fT.2.2.2.2.1 fT.2.2.2.2.2;have I5:=I4.track (C:=C) (od:=od) (ea:=ea) (s:={ s3 with heap:=h3 }) {g1 _ _ an.symm ex.obj,ex.big} a5 fE.1 le fE.2.1 fE.2.2.2.2.1 fE.2.2.2.2.2;show Jg (hz ea pins _ _ _ _ (I5.held (ea:=ea)) q) (λf s6 q6=>?_) λ_ _ w=>JB w;cases f with
  | next=>
   let(a,A,M,U):=q6;show {a,A,M.unheld I.ok,U}
  | ret u=>
   let(v,a,A,M,r,U):=q6;show {v,a,A,M.unheld I.ok,r,U}
  | brk=>
   let(a,A,M,U):=q6;show {a,A,M.unheld I.ok,U}
  | cont=>
   let(a,A,M,U):=q6;show {a,A,M.unheld I.ok,U}
 show wpAny_handleBy_cons (codeAny_handlers_test (eB (X:=X.held ea) B.held hg hm ?_ aA)) (by intro q;cases q);let(c,q)||(c,O,q):=a3
 ·show Xc.matches_own (K:=X.K) B.kIn inst c hY tY (ac hh (q ea fE.1))
 ·show Xc.matches_own (K:=X.K) B.kIn inst c hY tY ?_
  show wpAny_handleBy_cons (codeAny_handlers_test (eB (X:=X.held ea) B.held aC a1 ?_ hdb')) (by intro q;cases q);show Xc.matches_own (K:=X.K) B.kIn inst O as a8 (ac a0 (q ea fE.1))
end
end L2
namespace My
open PySem L2 PyProof.Rows
def aw(h:n<=100000):n<sizeLine:=by rw[JU];omega
def bX:∀{ms a:7 Yd.Mv} {s s':Yd.St},Yd.steps T b s ms=!s'->Yd.steps T b s (ms++a)=Yd.steps T b s' a
 | [],a,s,s',h=>by
  have:s=s':=vb h;rw[this];rfl
 | m::r,a,s,s',h=>by
  have h':(Yd.step T b s m).bind (λz=>Yd.steps T b z r)=!s':=h;show (Yd.step T b s m).bind (λz=>Yd.steps T b z (r++a))=_;cases e:Yd.step T b s m with
  | none=>rw[e]at h';cases h'
  | some z=>rw[e]at h';show bX h'
def uh(h:Yd.steps T b s (ms.take i)=!s')(c:ms[i]?=!m)(a:Yd.step T b s' m=8):Yd.steps T b s ms=8:=by
 have e:ms=ms.take i++(m::ms.drop (i+1)):=by
  let(hi,9):=op.mp c;rw[<- K3 hi,K1]
 rw[e,bX h];show (Yd.step T b s' m).bind _=8;rw[a];rfl
end My
namespace Thr
def gn{b:Type}{l:7 b}{a x:b}{i:4}(e:(l++[a])[i]?=!x):(i<l.length/\l[i]?=!x)\/(i=l.length/\x=a):=by
 rw[Md]at e
 split at e
 ·show .inl {(),e}
 ·cases q:i-l.length with
  | zero=>rw[q]at e;show .inr {(),(vb e).symm}
  | succ d=>rw[q]at e;simp at e
end Thr
namespace PySem
namespace F
def nolen_lri:NA (.type "list_reverseiterator") "__len__"=pure 8:=by
 rw[typeLookup_type,builtinLookup_eq_fast];kernel_rfl
def hint_lri:NA (.type "list_reverseiterator") "__length_hint__"=pure (!.builtin "list_reverseiterator.__length_hint__"):=by
 rw[typeLookup_type,builtinLookup_eq_fast];kernel_rfl
end F
section
variable {prog:IY} {w:Je} {A:Jq} {s:pe} {R:PJ->pe->Prop} {I:mu} {fp wr:7 mu} {G:Array Ms->Array Ms->Prop} {n:4} {P:4->n5->Prop} {St:4->pe->Prop}
def Dg (W:WalksS prog w A.in1 I fp wr G n P St) (p:∀i s,St i s->s.TypeIs (.ref I) "list_reverseiterator") (S:mu) (res:n5) (h:4) (c:St 0 s) (j:S∉fp) (t:I∈fp)
  (u:s.heap.get? S=some { cls:=.type "list",data:=.seq #[] h })
  (hR:∀s' a c',Moved (S::wr) G s s'->s'.heap.get? S=some { cls:=.type "list",dict:=8,data:=.seq a c',slots:=#[] }->ItemsOf P a n->R (.ok (.ret res)) s') (hn:n<=sizeLine):
  wpAny (model prog w) A.in1 (Kn (.ref S) (.ref I) res)
   (λz s'=>match z with | .done f=>R (.ok f) s' | .again c'=>c'.quiet=6/\K0 (model prog w) A c' R s') (λe s'=>R (.error e) s') s:=by
 have r:S≠I:=λe=>j (e▸t);unfold Kn;show mi (wpAny_typeOf (T := "list_reverseiterator") (p 0 _ c) ?_);have k1:N3 (.ref S) (.ref I)=5:=by
  simp[N3,r]
 have k2:(Nu "list_reverseiterator"==Nu "list")=5:=by decide
 have k3:(Nu "list_reverseiterator"==Nu "tuple")=5:=by decide
 simp only[k1,k2,k3,Px,xN,if_false];show mi
  (W.self 0 _ _ _ c ?_)
 show mi
  (Ki ?_)
 unfold Builtin.List.listLengthHint;show mi
  (OM (p 0 _ c) F.nolen_lri ?_)
 show wpAny _ A.in1
  (specialOf (Ja I) (rd "__length_hint__") >>= _) _ _ _
 show mi
  (OM (p 0 _ c) F.hint_lri ?_)
 (generalize d:("list_reverseiterator.__length_hint__":String)=o;(fail_if_success (clear d o));wp_delta;rw[show splitId o=some ("list_reverseiterator", "__length_hint__") from by subst d;decide +kernel];subst d)
 show mi
  (wpAny_isInstance (b:=6) (p 0 _ c) (by rw[isSubtype_type];kernel_rfl) ?_)
 show ri ?_;rw[if_neg (by decide)];show ri
  {L6 F.plain_extend_loop _,codeAny_extend_loopS W hn _ j _ n 0 _ _ _ 9 (Jd _) c u (ItemsOf.nil P) λs' a c' v q l=>?_}
 show hR s' a c' v q l
end
section
variable {prog:IY} {w:Je} {A:Jq} {E:n5->pe->Prop} {s:pe} {I:mu} {fp wr:7 mu} {G:Array Ms->Array Ms->Prop} {n:4} {P:4->n5->Prop} {St:4->pe->Prop}
def Br (W:WalksS prog w A.in1.in1 I fp wr G n P St) (H:∀i s,St i s->s.TypeIs (.ref I) "list_reverseiterator") (x:St 0 s) (u:∀b∈fp,b<↑s) (C:I∈fp)
  (D:∀s' a c',Moved (↑s::wr) G { s with heap:=s.heap.push { cls:=.type "list",data:=.seq #[] } } s'->
   s'.heap.get? ↑s=some { cls:=.type "list",dict:=8,data:=.seq a c',slots:=#[] }->ItemsOf P a n->Q (.ref ↑s) s') (hn:n<=sizeLine):
  wpAny (model prog w) A (call (.type "list") [.ref I]) Q E s:=by
 have j:↑s∉fp:=λv=>Kw _ (u _ v);show callType_codes (Q₁:=λB c=>B=.ref ↑s/\c={ s with heap:=s.heap.push { cls:=.type "list",data:=.seq #[] } }) F.called_list (F.typeCall_list_1 _) F.entry_list_init
  (code_list_new _ ⟨9,9⟩) λB c l=>?_
 let(9,9):=l;have q:(s.heap.push { cls:=.type "list",data:=.seq #[] }).get? ↑s=some { cls:=.type "list",data:=.seq #[] }:=
  y8 _ 9
 show {{_,q,9},F.args_list_init_2 _ _,?_};show wpAny _ A.in1.in1 (do let old <- OE (.ref ↑s);Builtin.List.listUpdate (.ref ↑s) (λ_=>#[]);letGo old.toList.reverse;Kn (.ref ↑s) (.ref I) .none) _ _ _;show mi ?_;unfold OE;show mi
  (Kv q 9 (ri ?_))
 show wpAny _ _ (Qx ↑s (λ_=>#[]) >>= λ_=>letGo (#[]:Array n5).toList.reverse >>= λ_=>Kn (.ref ↑s) (.ref I) .none) _ _ _;show mi
  (Me q 9 ?_)
 have t:=KA (JC (λ_=>(#[]:Array n5))) q 9;have p:∀b o,b≠↑s->(s.heap.push { cls:=.type "list",data:=.seq #[] }).get? b=!o->((s.heap.push { cls:=.type "list",data:=.seq #[] }).update ↑s (JC (λ_=>(#[]:Array n5)))).get? b=!o:=
  λb o f e=>(Jp _ _ (JP f)).trans e
 show mi (Lp ?_);have y:=W.frame 0 s (s.heap.push { cls:=.type "list",data:=.seq #[] }) s.toks x (oN _) λb _ o e=>pu _ e;have z:=W.frame 0 _ ((s.heap.push { cls:=.type "list",data:=.seq #[] }).update ↑s (JC (λ_=>(#[]:Array n5)))) s.toks y (oN _) λb f o e=>p b o (λh=>j (h▸f)) e;show Dg (A:=A.in1) W H ↑s .none _ z j C t (λs' a c' v r d=>?_) hn;show {9,D s' a c' (Moved.trans W.gtrans ((Moved.refl W.grefl).then_heap (oN _) λb o f e=>p b o (λh=>f (h▸vr)) e) v) r d}
end
end PySem
namespace L2
open PySem PySem.Spec PyProof.Rows
section
variable {X:Cx} {te:TE} {e:JF} {tg:JF}
def RB(Q:VK)(v:V)(H1:Hp):Prop:=∃a ys,v=.ref a/\H1 a=!.lst ys/\∀l,H1 l=8->Q (.ref l) (upd H1 l (.lst ys.reverse))
def Bs(te:TE):TE:=λσ H Q=>te σ H (RB Q)
def ui:∀{ys:7 V} {us:7 n5},az ys us->az ys.reverse us.reverse
 | _,_,.nil=>.nil
 | y::ys,u::us,.cons h t=>by
  rw[Lu,Lu];show (ui t).append (.cons h .nil)
def pI (he:PE X e te) (hc:X.calm=6) (E:Gl X "list") (O:X.mg "list"=8) (M:Gl X "reversed") (T:X.mg "reversed"=8)
  (B:starEach [e] X.env=(5,eval e X.env)::starEach [] X.env:=by rfl):PE X (.Call (.Name "list" p1) [.Call (.Name "reversed" p2) [e] [] pos2] [] pos1) (Bs te):=by
 intro l s σ H Q I h;show JL (cZ I E O (u:=.type "list") (by decide +kernel) ?_);show Jx ?_ 9 9;show wpAny _ _ (spliced ((5,eval (.Call (.Name "reversed" p2) [e] [] pos2) X.env)::backTo pos1 (starEach [] X.env))) _ _ s;show Ny ?_;show JL (cZ I M T (u:=.type "reversed") (by decide +kernel) ?_);have pa:PA X [e] (eZ te n9):=aD he cz B;show Jx (aJ (pa pos2 l s σ H (λvs H1=>match vs with | [v]=>RB Q v H1 | _=>False) I h) λus c ⟨vs,H1,D,r1,q1⟩=>?_) B 9
 match vs,us,r1,q1 with
 | [_],_,.cons rr .nil,⟨a,ys,ev,ab,q⟩=>
  subst ev;cases (show _=Ja a from rr);let(its,n',rv,U,hz):=D.lst ab;have hl:c.heap.IsList a its.toArray:={_,U,9,n',9};have N:its.length=ys.length:=rv.length.symm;show call_reversed_list hl ?_;show NR ?_;have x:a<↑c:=xE U;have W:=(Walks.listRev (prog:=X.prog) (w:=X.w) (A:=X.A.in1.in1) (I.ok.hd hc) ↑c a (vu x) its.toArray).toS;show Br W (λi s' st=>st.2.1.typeIs) {Jd _,?_,?_} (λb p=>?_) (by simp) (λs' d c' hm n f=>?_) (by rw[y9,N];show hz)
  ·show {_,y8 _ 9,9,?_}
   show Nf #[_,_]=_;congr 03;simp
  ·show {_,pu _ U,9,n',9}
  ·show b<(c.heap.push _).objs.size
   rw[Jl];simp only[Jb,MW,or_false]at p;let 9||9:=p
   ·show JG _
   ·show Lm x
  ·have hsz:(c.heap.push (revObj a ((its.toArray.size:3)-1))).objs.size=↑c+1:=by rw[Jl]
   have keep:∀b o,c.heap.get? b=!o->s'.heap.get? b=!o:=λb o z=>by
    show hm.heap b o (λy=>?_) (pu _ (pu _ z));have p:=xE z;let w'||w':=Jb.mp y
    ·rw[w']at p
     show absurd p (by show ¬ (c.heap.push _).objs.size<_;rw[hsz];show PZ.mpr (Lc _))
    ·rw[Jj.mp w']at p
     show Kw _ p
   rw[Moved.eq_with hm]at n ⊢;have hf:H1 (↑c+1)=8:=D.hok.fresh (Lc _);have r:d.toList=its.reverse:=by
    show KQ λj=>?_
    by_cases hj:j<its.length
    ·have t:j<d.size:=by rw[f.1,y9];show hj
     have hv:=f.2 j d[j] (Array.getElem?_eq_getElem t);rw[List.getElem?_reverse hj];have C:its.toArray[its.toArray.size-1-j]?=!d[j]:=hv;rw[ON,y9]at C;rw[C];simp[t]
    ·rw[Jk.mpr (by rw[JH,f.1,y9];omega),Jk.mpr (by rw[Kt];omega)]
   show EP X l σ Q (.ref (c.heap.push (revObj a ((its.toArray.size:3)-1))).objs.size) _;rw[hsz]at n ⊢;show ⟨.ref (↑c+1),_,D.laid (t':=s'.toks) (a:=↑c+1) (o:=.lst ys.reverse) keep (Lc _) ⟨by rw[Kt];show hz,d.toList,c',by rw[r];show ui rv,by simpa using n⟩,9,q _ hf⟩
def Hl(n:4):It:={λi _=>i<n,λi H x a=>a=H/\x=.int ((n:3)-1-i),λi _=>n<=i}
def zi{P:IY}{w:Je}{K:PySem.W.Frag}{tg:JF}(it:mu)(n:4):uX P w K tg (Hl n) [it] it (λi h=>OV h it ((n:3)-1+(i:4)*(-1)) ((n:3)-(i:4)) (-1)) where
 mem:=by simp
 obj:=λi h st b c=>by
  have e:b=it:=by simpa using c
  subst e;show ⟨_,st,λv z=>by
   have O:Nf _=MY v:=z;cases O⟩
 keep:=λi h h' st k=>k it (by simp) _ st
 item:=by
  intro X x hw u hc i a s σ H E I f st y;subst x hw u;let(j,l,D,p,q,r):=f it (by simp);have W:=Walks.range (prog:=X.prog) (w:=X.w) (I.ok.hd hc) it ((n:3)-1) (-1) n;show W.item i s _ _ y st λv h' A M d N=>?_;let(t,9):=M;have B:ao X a σ H { s with heap:=h',toks:=A }:=I.turned (λb o c e=>N b o (by simpa using c) e) j l p q r;show {_,9,zW (s:={ s with heap:=h',toks:=A }) (n := "range_iterator") d 9 9 (by decide) {.int ((n:3)-1-i),H,B,{t,?_},⟨9,9⟩,d,λb c=>(f b c).1}};congr 1;omega
 done:=by
  intro X x hw u hc i a s σ H E I f st y;subst x hw u;let(j,l,D,p,q,r):=f it (by simp);show wpAny_pyNext_range_end (I.ok.hd hc) st (by have:n<=i:=y;omega) λh' C=>{9,I.turned (t':=s.toks) (λb o c e=>C b o c e) j l p q r}
 self:=λ_ _ _ _ _ st h=>wpAny_pyIter_rangeiter st h
def Hm(a:TA):TI:=λσ H R=>a σ H λvs H1=>∃n:4,vs=[.int ((n:3)-1),.int (-1),.int (-1)]/\n<=1000000/\R (Hl n) H1
def Dh (C:Gl X "range") (D:X.mg "range"=8) (A:PA X [a,b,c] N) (hs:starEach [a,b,c] X.env=(5,eval a X.env)::starEach [b,c] X.env:=by rfl) (hs2:(backTo l (starEach [b,c] X.env)).any (·.1)=5:=by rfl):
  PI X tg (.Call (.Name "range" p) [a,b,c] [] l) (Hm N):=by
 intro f s σ H R I h;show Call_ (cZ I C D boot_range (Jx (aJ (A l f s σ H _ I h) λus i ⟨vs,H1,z,M,q1⟩=>?_) hs hs2));let(n,e,O,q):=q1;subst e;cases M with
 | cons r u=>
  cases u with
  | cons E u=>
   cases u with
   | cons y u=>
    cases u;let(t,9):=r;let(t',9):=E;let(d,9):=y;have j:Kl ((n:3)-1) (-1) (-1)=(n:3):=by
     unfold Kl;rw[if_neg (by decide)]
     split
     ·simp
     ·omega
    have x:Nn ((n:3)-1) (-1) (-1)=6:=by
     unfold Nn;rw[j];simp only[Builtin.Range.rangeFitsLong,Jf,Bool.or_eq_true,decide_eq_true_eq,beq_iff_eq,show ¬ ((-1:3)>0) by decide,if_false];omega
    show call_range_3 (by decide) ?_ (OZ (Ov ()));show wpAny_pyIter_range (IsRange.new ..) x ?_;have v:ao X f σ H1 { i with heap:=i.heap.push { cls:=.type "range",data:=.fields #[.int ((n:3)-1) t,.int (-1) t',.int (-1) d] } }:=z.kept (t':=i.toks) λb o e=>pu _ e;show ⟨(i.heap.push { cls:=.type "range",data:=.fields #[.int ((n:3)-1) t,.int (-1) t',.int (-1) d] }).objs.size,[(i.heap.push { cls:=.type "range",data:=.fields #[.int ((n:3)-1) t,.int (-1) t',.int (-1) d] }).objs.size],_,_,H1,9,
     v.kept (t':=i.toks) λb o e=>pu _ e,zi _ n,?_,λb B=>?_,q⟩
    ·show OV _ _ ((n:3)-1+((0:4):3)*(-1)) ((n:3)-((0:4):3)) (-1)
     rw[j,show (n:3)-1+((0:4):3)*(-1)=(n:3)-1 from (),show (n:3)-((0:4):3)=(n:3) from ()];show y8 _ 9
    ·have e:b=(i.heap.push { cls:=.type "range",data:=.fields #[.int ((n:3)-1) t,.int (-1) t',.int (-1) d] }).objs.size:=by simpa using B
     subst e;show v.fpOk (oN _) (v.hok.fresh (oN _))
def Bt{n:4}{g:TG}{j:TS}{D:bN}{σ:St}{H:Hp}(Pv:4->St->Hp->Prop)(l:Pv n σ H)
  (hs:∀i σ H,i<n->Pv (i+1) σ H->g (.int (i:3)) σ H λc f=>j (D.lp (Pv i)) c f) (o:∀σ H,Pv 0 σ H->D.nx σ H):
  ∃W:4->4->St->Hp->Prop,(∃m,W 0 m σ H)/\∀i m σ H,W i m σ H->
   ((Hl n).stop i H/\D.nx σ H)\/((Hl n).go i H/\∃N:St->Hp->Prop,(∀b a,N b a->∃h,h<m/\W (i+1) h b a)/\∀x a,(Hl n).yld i H x a->g x σ a λc f=>j { D with nx:=N,ct:=N,bk:=D.nx } c f):=by
 show {λi m σ H=>m=n-i/\i<=n/\Pv m σ H,⟨n,by simp,Jd _,l⟩,?_};rintro i m σ H ⟨rfl,hi,p⟩
 by_cases d:i<n
 ·show .inr {d,Pv (n-(i+1)),λb a q=>{n-(i+1),(),9,d,q},λx a y=>?_}
  let(e,y):=y;subst e y;have:=hs (n-(i+1)) σ a () (by rw[show n-(i+1)+1=n-i from ()];show p);rw[show ((n-(i+1):4):3)=(n:3)-1-i from ()]at this;show this
 ·have e:i=n:=()
  subst e;rw[Ob]at p;show .inl {oN _,o σ H p}
end
end L2
namespace Xc
open PySem
section
variable {M:Qb} {A:Jq} {E:n5->pe->Prop} {s:pe}
def note_any{base:Jz}{env:N5}{outer:7 N5}{L e T:mu}{cls f:n5}{od:Option mu}{sl:Array (Option n5)}{vs:Array n5}{Q:Unit->pe->Prop}
  (r:A.frames=!(env::outer)) (H:s.heap.FunFrames base (env::outer)) (x:env.frame=!L) (u:Exc s.heap e cls od sl vs)
  (D:vs[1]?=!.ref T) (p:T≠e) (N:Tb s.heap T f) (C:f=rawInt L->Q Jr s)
  (h:∀h' d,(∀b o,b∉(env::outer).filterMap (·.frame)->b≠e->b≠T->s.heap.get? b=!o->h'.get? b=!o)->
   (∀b o,b≠e->b≠T->s.heap.get? b=!o->∃k,h'.get? b=some { o with slots:=k })->
   ↑s<=d->Exc h' e cls od sl (vs.setIfInBounds 1 (.ref d))->Tb h' d (rawInt L)->Q Jr { s with heap:=h' }):
  wpAny M A (M4 (.ref e) env) Q E s:=by
 let(U,ts,n,c,v):=N.ex;unfold M4;simp only[x];show mi (JY u.obj 9 D ?_);rw[if_pos (show (Ja T != Kp)=6 from by simp)];show mi (JY n c v ?_)
 by_cases t:f=rawInt L
 ·rw[if_pos (show (f==rawInt L)=6 from by rw[t];show beq_self_eq_true _)]
  show ri (C t)
 ·rw[if_neg (show ¬ ((f==rawInt L)=6) from λz=>t (eq_of_beq z))]
  show mi (MD n c (Kr.mp v).1 ?_);have a:∀b,b≠T->(s.heap.update T (NY (·.setIfInBounds 03 Kp))).get? b=s.heap.get? b:=λb i=>Jp _ _ (JP i);show mT (base:=base) (had:=6) r (H.of_keeps λb o i I=>?_) x {(a e (JP p)).trans u.obj,u.big} λh' d k1 k2 k3 O k5=>h h' d (λb o y j l q=>?_) (λb o j l q=>?_) (by simpa using k3) O k5
  ·have B:b≠T:=λz=>by
    rw[z,n]at i;cases i;show I ts c
   show {o,(a b B).trans i,9}
  ·show k1 b o y j ((a b l).trans q)
  ·show k2 b o j ((a b l).trans q)
def flight{e T:mu}{fr:Option mu}{cls:n5}{od:Option mu}{sl:Array (Option n5)}{vs:Array n5}{j:n5}{Q:Unit->pe->Prop}(t:Exc s.heap e cls od sl vs)(l:vs[1]?=!.ref T)(r:Tb s.heap T j)
  (h:∀h',(∀b o,b≠T->s.heap.get? b=!o->h'.get? b=!o)->(∃c,Tb h' T c)->Q Jr { s with heap:=h' }):wpAny M A (N8 (.ref e) fr) Q E s:=by
 let(u,ts,d,a,n):=r.ex;have i:03<ts.size:=(Kr.mp n).1;unfold N8;show mi (JY t.obj 9 l ?_);rw[if_pos (show (Ja T != Kp)=6 from by simp)];show MD d a i (h _ (λb o p q=>(Jp _ _ (JP p)).trans q) {fr.elim .none λf=>rawInt f,{{_,_,map_at d a,9,?_}}});rw[LF i]
end
end Xc
namespace L2
open PySem PySem.Spec PyProof.Rows
def w8(X:Cx)(E:XK):Prop:=∀(a:7 (mu×Ky)) (σ:St) (H:Hp) (s:pe) (ea T:mu) (cls b:n5) (od:Option mu) (sl:Array (Option n5)) (vs:Array n5),ao X a σ H s->Xc.Exc s.heap ea cls od sl vs->
 vs[1]?=!.ref T->T≠ea->vs[2]?=!.none->Xc.Tb s.heap T b->H ea=8->H T=8->↑X.s₀<=ea->↑X.s₀<=T->E cls od H->X.xe (.ref ea) s
section
variable {P:IY} {w:Je} {K:PySem.W.Frag} {mg:xD->Option n5} {base:Jz} {N:7 xD} {qual:xD} {scope:JT} {f:mu} {cd:n5} {A:Jq} {outer:7 N5} {s:pe} {H:Hp} {E:XK}
def Di:w8 (lN (lV P w) P w K mg base N qual scope f cd A outer s H E) E:=by
 intro as σ H' s' ea T cls fl od sl vs I ex U Q ab tb n1 n2 m1 m2 q;have ap:s'.heap.FunFrames base (envOfC qual scope ↑s f cd::outer):=I.stack;have an:(A.deeper (envOfC qual scope ↑s f cd)).frames=!(envOfC qual scope ↑s f cd::outer):=I.ok.frames;have x:∀b∈(envOfC qual scope ↑s f cd::outer).filterMap (·.frame),H' b=8:=I.stkFree;have sub:∀b∈(envOfC qual scope ↑s f cd::outer).filterMap (·.frame),b∈↑s::oE outer:=I.stkSub;have bs:=I.base;have m1:↑s<=ea:=m1;have m2:↑s<=T:=m2
 have r:∀b o,s.heap.get? b=!o->b≠ea:=λb o e z=>by rw[z,Jy m1]at e;cases e
 have t:∀b o,s.heap.get? b=!o->b≠T:=λb o e z=>by rw[z,Jy m2]at e;cases e
 show wpAny (model P w) (A.deeper (envOfC qual scope ↑s f cd)) (leaving (envOfC qual scope ↑s f cd) (.ref ea)) (λ_ a=>lV P w outer H s E (.ref ea) a) (λe' a=>lV P w outer H s E e' a) s';unfold leaving;have D:∀(i:Jz) (d:mu) (h:Array n5) (M:n5),(∀b o,b∉(envOfC qual scope ↑s f cd::outer).filterMap (·.frame)->b≠ea->b≠T->s'.heap.get? b=!o->i.get? b=!o)->
   (∀b o,b≠ea->b≠T->s'.heap.get? b=!o->∃k,i.get? b=some { o with slots:=k })->↑s<=d->H' d=8->Xc.Exc i ea cls od sl h->h[1]?=!.ref d->h[2]?=!.none->d≠ea->Xc.Tb i d M->
   wpAny (model P w) (A.deeper (envOfC qual scope ↑s f cd)) (N8 (.ref ea) 8) (λ_ a=>lV P w outer H s E (.ref ea) a) (λe' a=>lV P w outer H s E e' a) { s' with heap:=i }:=by
  intro i d h M k1 k2 C kf k5 l ac c k6;show Xc.land k5 l c k6 λh2 O g2=>?_;have v:∀b o,s.heap.get? b=!o->b≠d:=λb o e z=>by rw[z,Jy C]at e;cases e
  have kept:∀b o,s.heap.get? b=!o->s'.heap.get? b=!o->b∉oE outer->h2.get? b=!o:=λb o p e B=>by
   show O b o (v b o p) (k1 b o (λz=>?_) (r b o p) (t b o p) e);let y||y:=Jb.mp (sub b z)
   ·rw[y]at p
    show absurd (xE p) (Kw _)
   ·show B y
  show ⟨ea,d,cls,od,sl,_,H',9,I.os,I.bare,⟨λb o e n B hx=>?_,λb o e n B hx=>?_,λb o e n hx=>bs.free b o e n (by show b∉([]:7 mu);simp),λb o e hx=>?_,bs.tups,bs.frzs,bs.tbls⟩,?_,n1,kf,m1,C,{O _ _ c.symm k5.obj,k5.big},l,c,ac,g2,q⟩
  ·show kept b o e (bs.keep b o e n B (by show b∉([]:7 mu);simp)) B
  ·let(k0,p):=bs.slot b o e n B (by show b∉([]:7 mu);simp)
   let(k,z):=k2 b _ (r b o e) (t b o e) p;show {k,O b _ (v b o e) z}
  ·let(o',e1):=bs.there b o e (by show b∉([]:7 mu);simp)
   let(k,z):=k2 b o' (r b o e) (t b o e) e1;show {_,O b _ (v b o e) z}
  ·show lW I.hok λb o u j e=>O b o (λz=>by rw[z,kf]at j;cases j) (k1 b o (λz=>by rw[x b z]at j;cases j) (λz=>by rw[z,n1]at j;cases j) (λz=>by rw[z,n2]at j;cases j) e)
 show mi (Xc.note_any an ap 9 ex U Q tb (λhq=>?_) λi d k1 k2 C k5 k6=>?_)
 ·show D s'.heap T vs fl (λb o _ _ _ e=>e) (λb o _ _ e=>⟨o.slots,e⟩) m2 n2 ex U ab Q tb
 ·show D i d _ _ k1 k2 (xM I.sz C) (I.hok.fresh C) k5 (by simp[LC ex.big]) (by rw[Ka (by decide)];show ab) (Kg (ti (xE ex.obj) C)) k6
end
section
variable {X:Cx} {K:PySem.W.Frag} {pins:7 (mu×Ky)} {σ:St} {H:Hp} {s:pe}
def Hn{M:Qb}{A:Jq}{XE:n5->pe->Prop}{R:Unit->pe->Prop}{E:XK}{ev:n5}{p s':pe}{H1:Hp}(I:ao X pins σ H1 p)(t:lV X.prog X.w X.stack H1 p E ev s')(ab:A.frames=!X.stack)(hs:X.stack=X.env::X.outer)(hl:X.env.frame=!X.env.locals)
  (k:∀(ea T:mu) (cls fl:n5) (od:Option mu) (sl:Array (Option n5)) (vs:Array n5) (c:Hp) (Q:pe),ev=.ref ea->ao X pins σ c Q->Xc.Exc Q.heap ea cls od sl vs->vs[1]?=!.ref T->T≠ea->vs[2]?=!.none->Xc.Tb Q.heap T fl->
   c ea=8->c T=8->↑p<=ea->↑p<=T->E cls od c->(∀b o,p.heap.get? b=!o->H1 b=8->b∉oE X.stack->Q.heap.get? b=!o/\c b=8)->R Jr Q):
  wpAny M A (M4 ev X.env) R XE s':=by
 let(ea,T,cls,od,sl,vs,c,9,ho,l,a,B,n1,n2,m1,m2,U,v1,ne,v2,tb,q):=t;have I':=I.call' (ch:=[]) ho a B l (λ_ z=>nomatch z);have an:s'.heap.FunFrames X.base (X.env::X.outer):=by rw[<- hs];show I'.stack
 have v:∀b∈(X.env::X.outer).filterMap (·.frame),c b=8:=by
  have z:=I'.stkFree;rw[hs]at z;show z
 have ac:oE X.stack=(X.env::X.outer).filterMap (·.frame):=by rw[hs];rfl
 have f:∀b o,p.heap.get? b=!o->b≠ea:=λb o e z=>by rw[z,Jy m1]at e;cases e
 have h:∀b o,p.heap.get? b=!o->b≠T:=λb o e z=>by rw[z,Jy m2]at e;cases e
 have x:∀(d:Jz) (j:mu) (i:Array n5) (r:n5),(∀b o,b∉(X.env::X.outer).filterMap (·.frame)->b≠ea->b≠T->s'.heap.get? b=!o->d.get? b=!o)->
   (∀b o,b≠ea->b≠T->s'.heap.get? b=!o->∃k,d.get? b=some { o with slots:=k })->↑p<=j->c j=8->Xc.Exc d ea cls od sl i->i[1]?=!.ref j->i[2]?=!.none->j≠ea->Xc.Tb d j r->R Jr { s' with heap:=d }:=by
  intro d j i r k1 k2 O kf k5 D N y k6;have C:iP X.prog X.w c d:=lW B λb o u a e=>k1 b o (λz=>by rw[v b z]at a;cases a) (λz=>by rw[z,n1]at a;cases a) (λz=>by rw[z,n2]at a;cases a) e;have u2:Un (oE X.stack) [] H1 c p.heap d:=by
   show {λb o e n l t=>?_,λb o e n l t=>?_,a.free,λb o e t=>?_,a.tups,a.frzs,a.tbls}
   ·show k1 b o (by rw[<- ac];show l) (f b o e) (h b o e) (a.keep b o e n l t)
   ·let(k0,e0):=a.slot b o e n l t
    let(k,z):=k2 b _ (f b o e) (h b o e) e0;show ⟨k,z⟩
   ·let(o',e1):=a.there b o e t
    let(k,z):=k2 b o' (f b o e) (h b o e) e1;show {_,z}
  have I2:ao X pins σ c { s' with heap:=d }:=I.call' (s':={ s' with heap:=d }) (ch:=[]) ho u2 C l (λ_ z=>nomatch z);show k ea j cls r od sl i c _ 9 I2 k5 D y N k6 n1 kf m1 O q λb o e n l=>{u2.keep b o e n l (by simp),u2.free b o e n (by simp)}
 show Xc.note_any (base:=X.base) (ab.trans (by rw[hs])) an hl U v1 ne tb (λhq=>?_) λd j k1 k2 O k5 k6=>?_
 ·show x s'.heap T vs .none (λb o _ _ _ e=>e) (λb o _ _ e=>⟨o.slots,e⟩) m2 n2 U v1 v2 ne tb
 ·show x d j _ _ k1 k2 ?_ (I'.hok.fresh O) k5 (by simp[LC U.big]) (by rw[Ka (by decide)];show v2) (Kg (ti (xE U.obj) O)) k6
  let(oT,_,e,_):=tb.ex;show xM m2 (xM (Jh (xE e)) O)
end
def IX(X:Cx)(scope:JT)(N':7 xD)(C:mu)(h:pe)(d:Hp)(f:7 mu)(E:XK):n5->pe->Prop:=λe s'=>
 ∃a b H1 c,ao (cC X scope N' C h d f λ_ _=>False) a b H1 c/\lV X.prog X.w X.stack H1 c E e s'
abbrev nO(X:Cx)(scope:JT)(N':7 xD)(E:XK)(C:mu)(c:pe)(a:Hp)(b:7 mu):Cx:=cC X scope N' C c a b (IX X scope N' C c a b E)
section
variable {X:Cx} {K:PySem.W.Frag} {pins:7 (mu×Ky)} {σ:St} {H:Hp} {s:pe}
def Ho{scope:JT}{N':7 xD}{E:XK}{C:mu}{i:pe}{c:Hp}{d:7 mu}:e7 (lV X.prog X.w) (nO X scope N' E C i c d) E:=by
 intro a b H1 h e s' I f;show {a,b,H1,h,I.wish (λ_ _=>False),f}
def pJ(X:Cx)(pins:7 (mu×Ky))(σ:St)(Q:VK)(E:XK)(b:n5)(C:mu)(r:PJ)(s':pe):Prop:=
 match r with
 | .ok _=>∃p a m,b=.ref p/\ao X pins σ a s'/\cy X pins a C/\s'.heap.Ns C m/\Q (.ref p) a
 | .error e=>∃(ea T:mu) (cls c:n5) (od:Option mu) (sl:Array (Option n5)) (vs:Array n5) (a:Hp) (m:xD->Option n5),e=.ref ea/\ao X pins σ a s'/\Xc.Exc s'.heap ea cls od sl vs/\vs[1]?=!.ref T/\T≠ea/\vs[2]?=!.none/\Xc.Tb s'.heap T c /\
   cy X pins a ea/\cy X pins a T/\cy X pins a C/\↑X.s₀<=ea/\↑X.s₀<=T/\ea≠C/\T≠C/\s'.heap.Ns C m/\E cls od a
def vz{aA tg iter:JF}{a0:7 JF}{scope:JT}{bc:LM}{N':7 xD}{cap:7 (Option 4)}{wi:TI}{g:TG}{bm:TT}{te:TE}{Q:VK}{E:XK}(hc:X.calm=6)(hs:X.stack=X.env::X.outer)(hl:X.env.frame=!X.env.locals)(S:wD X scope N' cap)(hi:PI X tg iter wi)
  (hg:∀C a O l,PG (nO X scope N' E C a O l) tg g) (ht:∀C a O l,rW (nO X scope N' E C a O l) a0 bm)
  (he:∀C a O l,PE (nO X scope N' E C a O l) aA te) (I:ao X pins σ H s) (h:nH wi cap g bm te σ H Q):
  wpAny (model X.prog X.w) X.A (eval iter X.env) (λx s1=>wpAny (model X.prog X.w) X.A (PM x) (λit a=>wpAny (model X.prog X.w) X.A (newList []) (λa3 s3=>
   wpAny (model X.prog X.w) X.A (Mz scope X.env.globals (aI X.env scope.names []) [] X.env.qual 8 .none (!X.env)) (λan s4=>
    K0 (model X.prog X.w) X.A (.compStart (.ListComp aA [{tg,iter,a0,0}] scope bc) 0 it a3 { an with scope:=relabel scope X.env }) (pJ X pins σ Q E a3 an.locals) s4) X.xe s3) X.xe a) X.xe s1) X.xe s:=by
 show aJ (hi pins s σ H _ I h) λv s1 h1=>aJ h1 λcd a h2=>?_;let(it,l,tn,J,O,e,I2,T,a1,f2,q):=h2;subst e;have ho:∀b∈l,b<↑a:=λb j=>by
  let(o,e,_):=T.obj _ _ a1 b j;show xE e
 show Kq (Ng S.nocell (by intro y hy;simp at hy) (λU a7 ap=>?_) S.kind);have a5:↑a≠(a.heap.push { cls:=.type "list",dict:=8,data:=.seq ([]:7 n5).toArray }).objs.size:=by rw[Jl];show vu (JG _)
 have f:↑a<=(a.heap.push { cls:=.type "list",dict:=8,data:=.seq ([]:7 n5).toArray }).objs.size:=by rw[Jl];show Lc _
 have old:∀b o,a.heap.get? b=!o->U.get? b=!o:=λb o e=>
  ap.extBut b o (vu (ti (xE e) f)) (pu _ (pu _ e))
 have a6:U.get? ↑a=some { cls:=.type "list",data:=.seq #[] }:=ap.extBut _ _ a5 (pu _ (y8 _ 9))
 let t:Cx:=nO X scope N' E (a.heap.push { cls:=.type "list",dict:=8,data:=.seq ([]:7 n5).toArray }).objs.size a O l
 let(W,(m0,w0),bn):=q ↑a (I2.hok.fresh (oN _));have J0:ao t [] (rV cap σ) (upd O ↑a (.lst [])) { a with heap:=U,toks:=a.toks+([]:7 (xD×n5)).length }:=I2.compStart S (oN _) f a5 f2 ho old a6 a7;have D:∀{B:Hp},(∀b∈l,B b=8)->∀b∈l,cy t [] B b:=λhn b j=>by
  let(_,g1,g2,g3,g4,g5):=f2 b j;show {hn b j,vu (ti (ho b j) f),J0.ok.exfs b j,.inl j,λx c e=>g4 x c (I2.clLook S e),λp hp=>absurd (show p∈([]:7 (mu×Ky)) from hp) (by simp)}
 have b0:∀b∈l,upd O ↑a (.lst []) b=8:=λb j=>by rw[af (vu (ho b j))];show (f2 b j).1
 have as:K0 (model X.prog X.w) X.A (.compLoop (.ListComp aA [{tg,iter,a0,0}] scope bc) 0 (.ref it) (.ref ↑a) t.env)
   (pJ X pins σ Q E (.ref ↑a) (a.heap.push { cls:=.type "list",dict:=8,data:=.seq ([]:7 n5).toArray }).objs.size) { a with heap:=U,toks:=a.toks+([]:7 (xD×n5)).length }:=by
  show mQ 9 (λn s'=>∃i A B,ao t [] A B s'/\tn i s'.heap/\(∀b∈l,B b=8)/\W i n A B) ?_ m0 {0,_,_,J0,T.keep _ _ _ a1 λb _ o e=>old b o e,b0,w0};rintro n s3 ⟨i,ab,H3,I3,bd,a4,w3⟩;have no:∀(e:n5) (s':pe),t.xe e s'->notedBy (model X.prog X.w) X.A t.env (λe s'=>pJ X pins σ Q E (.ref ↑a) (a.heap.push { cls:=.type "list",dict:=8,data:=.seq ([]:7 n5).toArray }).objs.size (.error e) s') e s':=by
   rintro e s' ⟨b5,A,H1,ca,J,hx⟩;have I1:ao X pins σ H1 ca:=I2.compBack f2 J;let(mC,aC,_):=id J.loc;let(oC,bT,bA,a8,rC):=aC;show wpAny (model X.prog X.w) X.A (M4 e X.env) _ _ s';show Hn I1 hx I.ok.frames hs hl λea T' cls fl od sl vs B cg ee bo ex b3 b2 b4 tb n1 n2 m1 m2 qE kept=>?_;subst ee;have fC:∀{H'':Hp},H'' (a.heap.push { cls:=.type "list",dict:=8,data:=.seq ([]:7 n5).toArray }).objs.size=8->cy X pins H'' _:=λz=>I2.fpOk f z;have nC:(a.heap.push { cls:=.type "list",dict:=8,data:=.seq ([]:7 n5).toArray }).objs.size∉oE X.stack:=by
    rw[hs];intro z;have z':_∈(X.env::X.outer).filterMap (·.frame):=z;rw[Mt,hl]at z';let y||y:=Jb.mp z'
    ·show (fC (H'':=λ_=>8) 9).2.1 y
    ·show (fC (H'':=λ_=>8) 9).2.2.1 y
   let(kC,kH):=kept _ oC a8 J.free nC;have bb:=xE a8;show {ea,T',cls,fl,od,sl,vs,B,mC,9,bo,ex,b3,b2,b4,tb,I1.fpOk m1 n1,I1.fpOk m2 n2,fC kH,xM I1.sz m1,xM I1.sz m2,Kg (ti bb m1),Kg (ti bb m2),⟨oC,bT,bA,kC,rC⟩,qE}
  let(stop,qn)||(go,N,hN,step):=bn i n ab H3 w3
  ·show Jg (T.done t 9 9 9 hc i [] s3 ab H3 t.xe I3 (D a4) bd stop) (λr s4 ⟨hr,I4⟩=>?_) no
   subst hr;let(mC,aC,_):=I4.loc;show {_,H3,mC,9,I2.compBack f2 I4,I2.fpOk f I4.free,aC,qn}
  ·show Jg (T.item t 9 9 9 hc i [] s3 ab H3 t.xe I3 (D a4) bd go) (λr s4 ⟨u,hr,h4⟩=>?_) no
   subst hr;show Jg h4 (λ_ s5 ⟨x,H5,I5,r5,y5,a2,b1⟩=>?_) no;have bt:=I5.pinned (D b1) (T.obj _ _ a2);show Jg (hg _ _ _ _ _ s5 ab H5 x u _ bt r5 (step x H5 y5)) (λ_ s6 ⟨ac,H6,I6,q6⟩=>?_) no;show Jg (ht _ _ _ _ _ s6 ac H6 _ I6 q6) (λok s7 ⟨H7,I7,q7⟩=>?_) no;have again:∀{M:St} {H7:Hp} {s7:pe},ao t ([]++ld l s5.heap) M H7 s7->N M H7->∃m,m<n/\∃i A B,ao t [] A B s7/\tn i s7.heap/\(∀b∈l,B b=8)/\W i m A B:=λ{M H7 s7} I7 n7=>by
    let(m',hm,w7):=hN M H7 n7;show {m',hm,i+1,M,H7,I7.unpinned,T.keep _ _ _ a2 λb j o e=>(I7.pin (b,o) (xC _ (xC _ (bO j e)))).1,λb j=>?_,w7};let(o,e,d):=T.obj _ _ a2 b j;show (I7.pin (b,o) (xC _ (xC _ (bO j e)))).2.1
   cases ok with
   | false=>show again I7 q7
   | true=>
    show Jg (he _ _ _ _ _ s7 ac H7 _ I7 q7) (λy s8 ⟨z,H8,I8,r8,xs,e8,l8,q8⟩=>?_) no;show Jg (jU (X:=t) _ s8 ac H8 (.ref ↑a) [z] (.ref ↑a) [y] (λ_ H9=>N ac H9) I8 9 (.cons r8 .nil) {_,xs,z,9,9,e8,l8,q8}) (λ_ s9 ⟨_,H9,I9,_,q9⟩=>?_) no;show again I9 q9
 show MA as (T.self _ 0 _ _ _ (T.keep _ _ _ a1 λb _ o e=>old b o e) as)
def Bu{t tg iter:JF}{A:7 JF}{scope:JT}{as:LM}{N':7 xD}{cap:7 (Option 4)}{wi:TI}{g:TG}{D:TT}{te:TE}{E:XK}(hc:X.calm=6)(ab:X.stack=X.env::X.outer)(hl:X.env.frame=!X.env.locals)(hF:w8 X E)(S:wD X scope N' cap)(hi:PI X tg iter wi)
  (hg:∀C f n v,PG (nO X scope N' E C f n v) tg g) (ht:∀C f n v,rW (nO X scope N' E C f n v) A D)
  (he:∀C f n v,PE (nO X scope N' E C f n v) t te) (hs:∀x,LB iter X.env x=pure x:=by intro _;rfl):
  PE X (.ListComp t [{tg,iter,A,0}] scope as) (nH wi cap g D te):=by
 intro pins s σ H Q I h;rw[Ps];show Ll (use:=8) 9 hs (e9 (I.cellOf S)) S.kind S.names (aJ (vz (Q:=Q) hc ab hl S hi hg ht he I h) λxv s1 h1=>aJ h1 λit f h2=>aJ h2 λa1 s3 h3=>aJ h3 λa0 s4 h4=>KC h4 λr i h5=>?_);cases r with
 | error e=>
  let(ea,T,cls,fl,od,sl,vs,l,m,9,M,O,c,y,ac,tb,fE,d,u,le,lT,an,ap,hn,qE):=h5;show {m,hn,λh' B N ec=>?_};have a:Xc.Exc h' ea cls od sl vs:={B.extBut _ _ an O.obj,O.big};have aA:Xc.Tb h' T fl:=by
   let(oT,ts,e1,e2,e3):=tb.ex;show {{oT,ts,B.extBut _ _ ap e1,e2,e3}}
  have I6:ao X pins σ l { i with heap:=h' }:=M.turned (t':=i.toks) (λb o z e=>B.extBut b o z e) u.1 u.2.1 u.2.2.2.1 u.2.2.2.2.1 u.2.2.2.2.2;unfold PySem.passOn;show mi (JY a.obj 9 c ?_);rw[if_neg (show ¬ ((Ja T==Kp)=6) from by simp)];show mi (Xc.flight (s:={ i with heap:=h' }) a c aA λh2 g1 g2=>wpAny_throw ?_);let(U,aC):=g2;have I7:ao X pins σ l { i with heap:=h2 }:=I6.turned (t':=i.toks) (λb o z e=>g1 b o z e) d.1 d.2.1 d.2.2.2.1 d.2.2.2.2.1 d.2.2.2.2.2;show hF pins σ l _ ea T cls U od sl vs I7 {g1 _ _ y.symm a.obj,O.big} c y ac aC fE.1 d.1 le lT qE
 | ok fl=>
  let(p,l,m,9,M,j,hn,q):=h5;show {m,hn,λh' B=>{.ref p,l,?_,9,q}};show M.turned (t':=i.toks) (λb o z e=>B.extBut b o z e) j.1 j.2.1 j.2.2.2.1 j.2.2.2.2.1 j.2.2.2.2.2
end
end L2
namespace Xc
open PySem
section
variable {prog:IY} {w:Je} {A:Jq} {E:n5->pe->Prop} {h:Jz} {g:Array Ms} {d:Drawn} {t:4} {os:Op}
variable {nm q:xD} {C N:mu} {bs bm bmB:7 n5} {hdct:Bool} {sn:7 xD} {sub:7 n5} {ab:Bool} {col:Option Bool} {dd:Option mu} {k0 k1 k2 k3 k5:Option n5} {B newId initId:String}
def Hq(F:Oy B newId initId bmB)(T:Qi h bmB bm){p:xD->Option n5}{rest:7 n5}{Q:PySem.Fin->pe->Prop}
  (i:h.get? C=!KR nm q C N bs bm hdct sn sub ab col dd k0 k1 k2 k3 k5 newId) (x:h.Ns N p) (hi:p "__init__"=8)
  (y:∀h' e,NF h h' e (.ref C) rest->h.objs.size<=e->Q (.done (.ret (.ref e))) ⟨h',g,d,t,os⟩) (f:rest.length<=sizeLine):
  wpAny (model prog w) A (Nb.«type.__call__» {.ref C::rest,[]}) Q E ⟨h,g,d,t,os⟩:=by
 repeat (first | with_reducible show Ks i ?_ | with_reducible show wpAny_madeBy_exc i ?_ | wp_step)
 show NO (Mj _ F.quiet) (wpAny_check_new_subT F T i (codeAny_exc_new_subT F T i ?_ f));show wpAny _ _ _ _ _ _;have j:∀b o,h.get? b=!o->((h.push { cls:=.type "tuple",data:=.seq rest.toArray }).push { cls:=.ref C,data:=.fields #[.ref h.objs.size,.none,.none,.none,.bool 5,.none] }).get? b=!o:=λb o e=>pu _ (pu _ e);have a:((h.push { cls:=.type "tuple",data:=.seq rest.toArray }).push { cls:=.ref C,data:=.fields #[.ref h.objs.size,.none,.none,.none,.bool 5,.none] }).get? (h.objs.size+1)=some { cls:=.ref C,data:=.fields #[.ref h.objs.size,.none,.none,.none,.bool 5,.none] }:=by heap_get
 have l:(Ja C::bm).contains (.ref C)=6:=by simp
 have c:=j _ _ i;have n:((h.push { cls:=.type "tuple",data:=.seq rest.toArray }).push { cls:=.ref C,data:=.fields #[.ref h.objs.size,.none,.none,.none,.bool 5,.none] }).Ns N p:=let ⟨o,v,u,e,r⟩:=x;{o,v,u,j _ _ e,r};unfold PV
 repeat (first | with_reducible show Ks a ?_ | (with_reducible show Nm c ?_;rw[l]) | wp_step)
 show wpAny _ _ (NA (.ref C) _) _ _ _;show wpAny_typeLookup_tail c n (T.keeps j) F.mroIs F.init.lookup ?_;rw[hi];show Ki (mi (wpAny_of_eq (F.init.bind _) ?_));show mi (Lr (LG F.init.plain F.initEntry (wpAny_check_init_subT F (T.keeps j) c a 9 ?_)))
 wp_walk
 show y _ _ {λb o s=>?_,Jy (Lc _),h.objs.size+2,?_,Jy (),?_} (Lc _)
 ·rw[Jp _ _ (Kg (Lm (xE s)))]
  show pu _ (j b o s)
 ·rw[KA _ (pu _ a) 9]
  simp only[Jl];rfl
 ·rw[Jp _ _ (show h.objs.size+1≠h.objs.size+2 by omega)]
  show Heap.get?_push_at (by simp only[Jl]) 9
def call0(F:Oy B newId initId bmB)(T:Qi h bmB bm){c:xD->Option n5}{rest:7 n5}{Q:n5->pe->Prop}
  (b:h.get? C=!KR nm q C N bs bm hdct sn sub ab col dd k0 k1 k2 k3 k5 newId) (i:h.Ns N c) (hi:c "__init__"=8)
  (j:∀h' e,NF h h' e (.ref C) rest->h.objs.size<=e->Q (.ref e) ⟨h',g,d,t,os⟩) (a:rest.length<=sizeLine):
  wpAny (model prog w) A (call (.ref C) rest) Q E ⟨h,g,d,t,os⟩:=by
 have l:=tc_lookup;have n:=tc_bind (.ref C);have o:(⟨h,g,d,t,os⟩:pe).TypeIs (.ref C) "type":={_,b,9};show Lr (codeAny_of_tree (?_:wpAny _ _ (callAny (.ref C) _) _ _ _))
 repeat (any_goals (first | assumption | with_reducible show Ks b ?_ | wp_step))
 show {9,N9 (Mj _ (by decide +kernel)) entry_typeCall (NP b (Hq F T b i hi (λh' e f hs=>?_) a))};show j h' e f hs
end
end Xc
namespace L2
open PySem PySem.Spec PyProof.Rows
def Dj{K:PySem.W.Frag}{h:Jz}{N:mu}{mg:xD->Option n5}{n:xD}(X:K.In h)(G:h.Ns N mg)(e:MV K N n=!8):mg n=8:=by
 let(o,p,l,j,b,_,i):=G;unfold MV at e
 split at e
 ·rename_i c d a r sl q
  have:=X _ _ q;rw[j]at this;cases this;cases b
  split at e
  ·cases e
  ·rename_i f
   rw[<- i];unfold nsFind findBy;rw[<- Nx,f];rfl
 ·cases e
section
variable {X:Cx} {k:4} {C:mu} {E:XK} {x:xD} {p pos rpos:LM} {e:JF} {es:7 JF} {t:TA}
def Dk(C:mu)(E:XK)(t:TA):TS:=λ_ σ H=>t σ H λvs H1=>vs.length<=1000/\E (.ref C) 8 H1
def c9(M:X0 X.K C)(hr:bv (k+1) X.A)(hm:X.mg x=!.ref C)(hg:Gl X x)(hx:r9 X E)
  (ha:PA X (e::es) t) (ap:(x==("__debug__":xD))=5:=by decide) (he:starEach (e::es) X.env=(5,eval e X.env)::starEach es X.env:=by rfl) (hpl:(backTo pos (starEach es X.env)).any (·.1)=5:=by rfl):
  PS X (.Raise (!(.Call (.Name x p) (e::es) [] pos)) 8 rpos) (Dk C E t):=by
 intro l s σ H D I h;let(O,b,(nm,qn,bs,bm,hdct,sn,sub,ab,col,dd,k0,k1,k2,k3,k5,ac,T,mN,hN)):=mU I.kIn M.x;let(a4,i,hi):=Mq.mp M.init;rw[b]at i;cases i;have an:bm.contains (.type "BaseException")=6:=T.hasType (by decide +kernel);rw[arm_exec_Raise];show mi (Ko ?_);show wpAny _ _ (Qu X.env (!(do let v <- eval (.Call (.Name x p) (e::es) [] pos) X.env;standAt rpos;pure v)) none) _ _ _;show Xc.raise_made (C:=C) (N:=O.ns) (nm:=nm) (q:=qn) (bs:=bs) (bm:=bm) (hdct:=hdct) (sn:=sn) (sub:=sub) (ab:=ab) (col:=col) (dd:=dd) (k0:=k0) (k1:=k1) (k2:=k2) (k3:=k3) (k5:=k5) (newId := "ValueError.__new__") an hr.hd ?_
 show mi (aJ (Q:=λv u=>∃e od sl vs,v=.ref e/\u.heap.get? C=!KR nm qn C O.ns bs bm hdct sn sub ab col dd k0 k1 k2 k3 k5 "ValueError.__new__"/\Xc.Exc u.heap e (.ref C) od sl vs/\vs[1]?=!.none/\X.xe (.ref e) u) ?_ λv u h1=>mi (Ko (ri h1)));show JL (eB I hg hm ?_ ap);show MZ (h₀:=X.base) I.ok.mod.kin M.kp (aJ (ha pos l s σ H _ I h) λus u ⟨vs,H1,f,r,hl,q⟩=>{f.kIn,?_}) he hpl;let(a5,j,(a8,bb,a3,a2,as,bc,a0,a1,aC,a6,j0,j1,j2,j3,j5,U,T1,a7,A)):=mU f.kIn M.x;rw[b]at j;cases j
 have kC:u.heap.get? C=!KR nm qn C O.ns bs bm hdct sn sub ab col dd k0 k1 k2 k3 k5 "ValueError.__new__":=by
  have B:∃o,X.K.lookup C=!o:=by
   unfold PySem.W.clsIn at b
   split at b
   ·rename_i z;show {_,z}
   ·cases b
  let(o,B):=B;have e1:=I.kIn C o B;rw[ac]at e1;cases e1;show f.kIn C _ B
 have aA:=Dj f.kIn A hi;let(hp,g,d,tk,os):=u;show Xc.call0 PySem.F.excBase_ValueError T1 U A aA (λh' a n hs=>?_) (by rw[NC,<- r.length,JU];omega);let(tt,ht,_,_):=n.there;have I2:=f.kept (h':=h') (t':=tk) n.keeps;show {a,8,_,_,9,n.keeps _ _ kC,⟨ht,by simp⟩,9,?_};show hx l σ H1 _ a (.ref C) 8 _ _ I2 {⟨ht,by simp⟩,9,f.hok.fresh hs,xM f.sz hs,λy c e z=>?_,.inl 9} q;let(v,o,y,_):=f.cell _ c e;rw[z]at y;show absurd (xE y) (PZ.mpr hs)
end
end L2
namespace Xc
open PySem
section
variable {prog:IY} {w:Je} {A:Jq} {R:PJ->pe->Prop} {I:mu} {fp wr:7 mu} {n:4} {P:4->n5->Prop} {St:4->Jz->Prop} {d:n5} {kn:xD}
def zj(W:Walks prog w A.in1 I fp wr n P St)(D:4->4->Bool)(N:CmpOf prog w A.in1 .Gt P D)(S:mu)(H:S∉fp):
  ∀(k j:4) (s:pe) (u:n5) (c:4),n-(j+1)=k->j+1<=n->St (j+1) s.heap->P (NV D j) u->
  s.heap.get? S=some { cls:=.type "list",dict:=8,data:=.seq #[u,u] c,slots:=#[] }->
  (∀v h' T,P (NV D (n-1)) v->(∀b o,b∉wr->b≠S->s.heap.get? b=!o->h'.get? b=!o)->R (.ok (.ret v)) { s with heap:=h',toks:=T })->
  K0 (model prog w) A (.builtin "max.loop" {[.ref I,.none,.ref S],[(kn,d)]}) R s:=by
 have M:S∉wr:=λh=>H (W.sub _ h);have q:(toString "max"++toString ".loop":String) = "max.loop":=by decide
 intro k
 induction k with
 | zero=>
  intro j s u c hk hj C t E Q;have O:j+1=n:=()
  show Mb F.entry_max_loop ?_;rw[Lj F.plain_max_loop _];show wpAny _ A.in1 (seqItems? (.ref S) >>= _) _ _ s;show mi (Kv E 9 ?_);show wpAny _ A.in1 (tryCatch (Ou (.ref I)) _ >>= _) _ _ s;show mi (MM (W.done s _ _ (O▸C) λh' T i=>?_));have l:=i S _ M E;show wpAny _ A.in1 (Qx S (λ_=>#[]) >>= _) _ _ _;show mi ?_;show Me l 9 (mi (Lp (ri ?_)));show Q u _ T (by rw[<- O];show t) λb o a f e=>(Jp _ _ (JP f)).trans (i b o a e)
 | succ k ih=>
  intro j s u c hk hj C t E Q;have B:j+1<n:=()
  show Mb F.entry_max_loop ?_;rw[Lj F.plain_max_loop _];show wpAny _ A.in1 (seqItems? (.ref S) >>= _) _ _ s;show mi (Kv E 9 ?_);show wpAny _ A.in1 (tryCatch (Ou (.ref I)) _ >>= _) _ _ s;show mi (MM (W.item (j+1) s _ _ B C λv h' T hP x i=>?_));have l:=i S _ M E;show wpAny _ A.in1 (tryCatch (holding [v,v] (richCompare .Gt v u >>= _)) _ >>= _) _ _ _;show mi (MM (Ki (mi (N (j+1) (NV D j) v u _ _ _ hP t ?_))));show mi (Ki (JQ ?_))
  show mi (Lp (ri ?_));cases hb:D (j+1) (NV D j) with
  | true=>
   simp only[if_true];show mi ?_;show Me l 9 (mi (Lp ?_));rw[q];show ri ⟨L6 F.plain_max_loop _,ih (j+1) _ v _ () B (W.frame _ _ _ x λb U o e=>?_) (by simp only[NV,hb,if_true];show hP) (KA _ l 9)
    λv' y r z p=>?_⟩
   ·show (Jp _ _ (λh:S=b=>H (by rw[h];show U))).trans e
   ·show Q v' y r z λb o a f e=>p b o a f ((Jp _ _ (JP f)).trans (i b o a e))
  | false=>
   simp only[xN,if_false];show mi (Lp ?_);rw[q];show ri ⟨L6 F.plain_max_loop _,ih (j+1) _ u c () B x (by simp only[NV,hb,xN,if_false];show t) l λv' y r z p=>?_⟩;show Q v' y r z λb o a f e=>p b o a f (i b o a e)
def vA(W:Walks prog w A.in1 I fp wr n P St)(z:4->4->Bool)(r:CmpOf prog w A.in1 .Gt P z)(S:mu)(i:S∉fp){s:pe}{c:4}(u:St 0 s.heap)
  (H:s.heap.get? S=some { cls:=.type "list",dict:=8,data:=.seq #[] c,slots:=#[] })
  (hR0:n=0->∀h' l,(∀b o,b∉wr->b≠S->s.heap.get? b=!o->h'.get? b=!o)->R (.ok (.ret d)) { s with heap:=h',toks:=l })
  (hR:0<n->∀v h' l,P (NV z (n-1)) v->(∀b o,b∉wr->b≠S->s.heap.get? b=!o->h'.get? b=!o)->R (.ok (.ret v)) { s with heap:=h',toks:=l }):
  K0 (model prog w) A (.builtin "max.loop" {[.ref I,.none,.ref S],[(kn,d)]}) R s:=by
 have D:S∉wr:=λh=>i (W.sub _ h);have j:(toString "max"++toString ".loop":String) = "max.loop":=by decide
 show Mb F.entry_max_loop ?_;rw[Lj F.plain_max_loop _];show wpAny _ A.in1 (seqItems? (.ref S) >>= _) _ _ s;show mi (Kv H 9 ?_);show wpAny _ A.in1 (tryCatch (Ou (.ref I)) _ >>= _) _ _ s;let hn||hn:=Nat.eq_zero_or_pos n
 ·show mi (MM (W.done s _ _ (hn▸u) λh' l f=>?_))
  show mi (KU (ri ?_));show hR0 hn h' l λb o a _ e=>f b o a e
 ·show mi (MM (W.item 0 s _ _ hn u λv h' l M x f=>?_))
  have p:=f S _ D H;show wpAny _ A.in1 (Qx S (λ_=>#[v,v]) >>= _) _ _ _;show mi ?_;show Me p 9 ?_;rw[j];show ri {L6 F.plain_max_loop _,zj W z r S i _ 0 _ v _ 9 hn (W.frame _ _ _ x λb E o e=>?_) M (KA _ p 9) λv' B y C t=>?_}
  ·show (Jp _ _ (λh:S=b=>i (by rw[h];show E))).trans e
  ·show hR hn v' B y C λb o a q e=>t b o a q ((Jp _ _ (JP q)).trans (f b o a e))
end
def zk(a v:n5):argsOk "max" {[a],[(rd "default",v)]}:=by unfold argsOk;kernel_rfl
section
variable {prog:IY} {w:Je} {A:Jq} {E:n5->pe->Prop} {s:pe}
def call_maxD{x d:n5}{Q:n5->pe->Prop}
  (h:wpAny (model prog w) A.in1 (PM x) (λit a=>∃I y z n P St u,it=.ref I/\Walks prog w A.in1 I y z n P St/\St 0 a.heap/\(∀b∈y,b<↑a)/\CmpOf prog w A.in1 .Gt P u /\
   (n=0->∀h' l,(∀b o,b∉z->a.heap.get? b=!o->h'.get? b=!o)->Q d { a with heap:=h',toks:=l }) /\
   (0<n->∀v h' l,P (NV u (n-1)) v->(∀b o,b∉z->a.heap.get? b=!o->h'.get? b=!o)->Q v { a with heap:=h',toks:=l })) E s):
  wpAny (model prog w) A (call (.builtin "max") [x] [(rd "default",d)]) Q E s:=by
 have j:(toString "max"++toString ".loop":String) = "max.loop":=by decide
 show Lr (LG F.plain_max F.entry_max ?_);have c:wpAny (model prog w) A.in1 (Nb.«max» ⟨[x],[(rd "default",d)]⟩) (λB s'=>match B with
   | .done f=>(match (Except.ok f:PJ) with | .ok (.ret v)=>Q v s' | .ok _=>False | .error e=>E e s')
   | .again c'=>c'.quiet=6/\K0 (model prog w) A c' (λr s'=>match r with | .ok (.ret v)=>Q v s' | .ok _=>False | .error e=>E e s') s') E s:=by
  show wpAny _ A.in1 (Nq "max" ["key", "default"] 0 {[],[(rd "default",d)]} >>= _) _ _ s;show mi (wpAny_of_eq (show Nq "max" ["key", "default"] 0 {[],[(rd "default",d)]}=pure [8,!d] from by kernel_rfl) ?_);show mi (ri ?_);show mi (Jg h (λit a t=>?_) λ_ _ e=>e);let(I,y,z,n,P,St,u,9,W,T,M,p,C,hQ):=t;show mi (Kq ?_);have D:↑a∉y:=λhm=>Kw _ (M _ hm);rw[j];show ri {L6 F.plain_max_loop _,vA W u p ↑a D (W.frame _ _ _ T λb _ o e=>pu _ e) (y8 _ 9) (λO h' l N=>?_) λO v h' l hP N=>?_}
  ·show C O h' l λb o i e=>N b o i (vu (xE e)) (pu _ e)
  ·show hQ O v h' l hP λb o i e=>N b o i (vu (xE e)) (pu _ e)
 simp only[checkBuiltinCall,F.kind_max];cases q:Manifest.signature? "max" with
 | none=>show ri c
 | some U=>
  have H:Bind.checkArgs "max" U {[x],[(rd "default",d)]}=pure Jr:=by simpa only[argsOk,q] using zk x d
  simp only[H];show ri c
end
end Xc
namespace L2
open PySem PySem.Spec PyProof.Rows
section
variable {X:Cx} {K:PySem.W.Frag} {te td:TE} {e dx:JF}
def Hr(K:PySem.W.Frag)(te td:TE):TE:=λσ H Q=>te σ H λv H1=>td σ H1 λu a=>∃(l:mu) (ns:7 3) (z:3),v=.ref l/\u=.int z/\ak K a l (ns.map V.int)/\(ns=[]->Q (.int z) a)/\∀m,m∈ns->(∀y∈ns,y<=m)->Q (.int m) a
def Dl {p a kp:LM} (hK:X.K=K) (hc:X.calm=6) (hg:Gl X "max") (hm:X.mg "max"=8) (he:PE X e te) (hd:PE X dx td)
  (r:starEach [e] X.env=(5,eval e X.env)::starEach [] X.env:=by rfl):
  PE X (.Call (.Name "max" p) [e] [{!"default",dx,kp}] a) (Hr K te td):=by
 subst hK;intro f s σ H Q I h;show JL (cZ I hg hm (u:=.builtin "max") (by decide +kernel) ?_);have pa:PA X [e] (eZ te n9):=aD he cz r;have N:backTo a (starEach [e] X.env)=(5,eval e X.env)::backTo a (starEach [] X.env):=by rw[r];rfl
 show callWith_kw (aJ (pa a f s σ H (λvs H1=>match vs with | [v]=>td σ H1 λu q=>∃(l:mu) (ns:7 3) (z:3),v=.ref l/\u=.int z/\ak X.K q l (ns.map V.int)/\(ns=[]->Q (.int z) q)/\∀m,m∈ns->(∀y∈ns,y<=m)->Q (.int m) q | _=>False) I h) λus s1 ⟨vs,H1,I1,r1,q1⟩=>?_) N (by rw[r];rfl)
 match vs,us,r1,q1 with
 | [_],_,.cons rr .nil,q1=>
  show wpAny _ _ (evalAll [do let v <- eval dx X.env;standAt a;pure v]) _ _ s1;show wpAny_evalAll_cons (mi (aJ (hd f s1 σ H1 _ I1 q1) λu B ⟨z',q,O,rz,l,ns,z,ev,eu,hq,q0,qm⟩=>mi (Ko (ri (wpAny_evalAll_nil ?_)))));subst ev eu;cases (show _=Ja l from rr);let(t,9):=rz;show wpAny _ _ (call (.builtin "max") [.ref l] [(rd "default",.int z t)]) _ _ B;let(its,rv,pl,hz):=O.list hq;have c:its.toArray.size=ns.length:=by rw[y9,<- rv.length,lj]
  have d:∀(i:4) (v:n5),its.toArray[i]?=!v->∃t,v=.int (ns.getD i 0) t:=λi v e=>by
   rw[ON]at e;have hi:i<its.length:=(op.mp e).1;have n:i<ns.length:=by rw[<- c,y9];show hi
   let(u,T,ru):=rv.get (i:=i) (x:=.int ns[i]) (by rw[r6,li n];rfl);rw[e]at T;cases T;rw[oa,li n];show ru
  show Xc.call_maxD (K9 pl.isList ?_);have lp:l<↑B:=by let(_,o,_):=pl.isList;show xE o
  have W:=Walks.list (prog:=X.prog) (w:=X.w) (A:=X.A.in1) (I.ok.hd hc) ↑B l (vu lp) its.toArray;have kept:∀(h':Jz) (C:4),(∀b o,b∉[↑B]->(B.heap.push { cls:=.type "list_iterator",data:=.fields #[.ref l,rawInt 0] }).get? b=!o->h'.get? b=!o)->ao X f σ q { B with heap:=h',toks:=C }:=λh' C D=>O.kept λb o e=>D b o (λz=>by
   have:b=↑B:=by simpa using z
   show absurd (xE e) (by rw[this];show Kw _)) (pu _ e)
  show {_,_,_,_,_,_,_,9,W,{{_,y8 _ 9,9,9},pl.isList.push _},λb n=>?_,CmpOf.ints_gt (λi=>ns.getD i 0) d,λM h' C D=>?_,λM v h' C hP D=>?_}
  ·rw[Jl]
   simp only[Jb,MW,or_false]at n;let 9||9:=n
   ·show JG _
   ·show Lm lp
  ·rw[c]at M
   show {.int z,q,kept h' C D,⟨t,9⟩,q0 (KO.mp M)}
  ·let(t',9):=d _ v hP
   have n:=argBest_gt (λi=>ns.getD i 0) (its.toArray.size-1);rw[c]at M;have get:∀j,j<ns.length->ns.getD j 0=ns[j]!:=λj E=>by simp[oa,E]
   generalize ab:NV (λi j=>decide (ns.getD i 0>ns.getD j 0)) (its.toArray.size-1)=U at n ⊢;rw[c]at n;have E:U<ns.length:=()
   show {.int (ns.getD U 0),q,kept h' C D,⟨t',9⟩,qm _ ?_ λy hy=>?_}
   ·rw[oa,li E]
    show Mo E
   ·let(i,hi,9):=Ku hy
    have:=n.2 i ();rw[oa,li hi]at this;show this
end
end L2
namespace PyProof.Rows
open PySem
def Dm:Bool->Keyed->Array Keyed->4->4->4->StateT SortSt QJ (Option 4):=sortPriv% PySem.Builtin.gallop
section
variable {prog:IY} {w:Je} {A:Jq} {E:n5->pe->Prop} {s:pe}
def oO{st:SortSt}(c:kindOf st=oneType')
  (h:Q (!(decide (a<b))) st):wpS (model prog w) A E s (lt' (.int a t,p) (.int b u,q)) Q st:=by
 rw[lt'_eq];show wpS_bind (wpS_get ?_);rw[c,keyLt'_oneType];show wpS_bind (wpS_lift (N1 (oneLt_int {9,?_})));show wpS_pure h
def IntKeys.at(b:IntKeys xs)(hi:i<xs.size):
  ∃t q,xs[i]?=!(.int (K xs i) t,q):=by
 have e:xs[i]?=!xs[i]:=getElem?_pos _ i hi;let(n,t,j):=b xs[i] (by simp);show {t,xs[i].2,?_};have a:xs[i]=(.int n t,xs[i].2):=QE j 9;unfold K;rw[e,a];rfl
def aN{st:SortSt}(e:xs[i]?=!p)(h:Q p st):
  wpS (model prog w) A E s (elem' xs i) Q st:=by
 rw[elem'_eq,e];show wpS_pure h
def bi(left:Bool)(k x:3):Bool:=if left then decide (x<k) else (not (decide (k<x)))
def fc{st:SortSt}
  (b:kindOf st=oneType') (c:IntKeys xs) (hi:i<xs.size) (h:Q (!bi left a (K xs i)) st):
  wpS (model prog w) A E s (do
   let x <- elem' xs i
   if left then lt' x (.int a t,p) else return (<- lt' (.int a t,p) x).map ((not ·))) Q st:=by
 let(u,q,e):=c.at hi;show wpS_bind (aN e ?_);cases left
 ·simp only[xN,if_false]
  show wpS_bind (oO b (wpS_pure ?_))
  simpa[bi] using h
 ·simp only[if_true]
  show oO b ?_
  simpa[bi] using h
def da{st:SortSt}{base n b:4}
  (U:kindOf st=oneType') (N:IntKeys xs) (hn:base+n<=xs.size) (hh:b<n)
  (hs:∀i j,i<=j->j<n->K xs (base+i)<=K xs (base+j))
  (h:∀k,k<=n->(∀i,i<k->bi left a (K xs (base+i))=6)->(∀i,k<=i->i<n->bi left a (K xs (base+i))=5)->Q (!k) st):
  wpS (model prog w) A E s (Dm left (.int a t,p) xs base n b) Q st:=by
 have mono:∀i j,i<=j->j<n->bi left a (K xs (base+j))=6->bi left a (K xs (base+i))=6:=by
  intro i j C hj T;have:=hs i j C hj;unfold bi at T ⊢;cases left<;>simp at T ⊢<;>omega
 have u:∀i j,i<=j->j<n->bi left a (K xs (base+i))=5->bi left a (K xs (base+j))=5:=by
  intro i j C hj T;cases hc:bi left a (K xs (base+j))
  ·rfl
  ·rw[mono i j C hj hc]at T;cases T
 show wpS_bind (fc U N (i:=base+b) () ?_);dsimp only;cases hr:bi left a (K xs (base+b))
 ·simp only[xN,if_false]
  show wpS_bind (wpS_mono (wpS_forRange
   (I:=λx c e=>e=st/\∃l o,c=(8,l,o)/\l<o/\x<o/\l<=b/\bi left a (K xs (base+(b-l)))=5)
   (Q:=λc e=>e=st/\∃l o,c=(8,l,o)/\l<o/\l<=b/\bi left a (K xs (base+(b-l)))=5 /\
    (b+1<=o\/bi left a (K xs (base+(b-o)))=6)) ?step ?fin ?init) ?post)
  case init=>show ⟨9,0,1,9,(),(),(),by simpa using hr⟩
  case fin=>
   rintro c e ⟨rfl,l,o,rfl,v,r,y,f⟩;show {9,l,o,9,v,y,f,.inl ()}
  case step=>
   rintro x c e _ hx ⟨rfl,l,o,rfl,v,r,y,f⟩;dsimp only
   by_cases q:o>=b+1
   ·rw[if_pos q]
    show wpS_pure {9,l,o,9,v,y,f,.inl q}
   ·rw[if_neg q]
    show wpS_bind (fc U N () ?_);dsimp only;cases z:bi left a (K xs (base+(b-o)))
    ·simp only[xN,if_false]
     show wpS_pure {9,o,2*o+1,9,(),(),(),z}
    ·simp only[if_true]
     show wpS_pure {9,l,o,9,v,y,f,.inr z}
  case post=>
   rintro c e ⟨rfl,l,o,rfl,v,y,f,h5⟩;dsimp only;have B:b+1-min o (b+1)<=b-l:=()
   have D:b-l<=n:=()
   have H:∀i,i<b+1-min o (b+1)->bi left a (K xs (base+i))=6:=by
    intro i hi;let h5||h5:=h5
    ·omega
    ·show mono i (b-o) () () h5
   have M:∀i,b-l<=i->i<n->bi left a (K xs (base+i))=5:=λi v r=>u _ _ v r f;generalize b+1-min o (b+1)=lo at B H ⊢;generalize b-l=hi at B D M ⊢;show wpS_bind (wpS_mono (wpS_forRange
     (I:=λx c d=>d=e/\∃lo hi,c=(8,lo,hi)/\lo<=hi/\hi<=n/\hi-lo<=n-x/\(∀i,i<lo->bi left a (K xs (base+i))=6) /\
      (∀i,hi<=i->i<n->bi left a (K xs (base+i))=5))
     (Q:=λc d=>d=e/\∃lo hi,c=(8,lo,hi)/\hi<=n/\(∀i,i<hi->bi left a (K xs (base+i))=6) /\
      (∀i,hi<=i->i<n->bi left a (K xs (base+i))=5)) ?aU ?gfin {9,lo,hi,9,B,D,(),H,M}) ?gpost)
   case gfin=>
    rintro c d ⟨rfl,lo,hi,rfl,v,r,y,f,h5⟩;have:lo=hi:=()
    subst this;show ⟨9,lo,lo,9,r,f,h5⟩
   case gpost=>
    rintro c d ⟨rfl,lo,hi,rfl,r,f,h5⟩;show wpS_pure (h hi r f h5)
   case aU=>
    rintro x c d _ hx ⟨rfl,lo,hi,rfl,v,r,y,f,h5⟩;dsimp only
    by_cases q:lo>=hi
    ·rw[if_pos q]
     have:lo=hi:=()
     subst this;show wpS_pure ⟨9,lo,lo,9,r,f,h5⟩
    ·rw[if_neg q]
     show wpS_bind (fc U N () ?_);dsimp only;cases z:bi left a (K xs (base+(lo+(hi-lo)/2)))
     ·simp only[xN,if_false]
      show wpS_pure {9,lo,lo+(hi-lo)/2,9,(),(),(),f,λi O h7=>u _ _ O h7 z}
     ·simp only[if_true]
      show wpS_pure {9,lo+(hi-lo)/2+1,hi,9,(),(),(),λi O=>mono i (lo+(hi-lo)/2) () () z,h5}
 ·simp only[if_true]
  show wpS_bind (wpS_mono (wpS_forRange
   (I:=λx c e=>e=st/\∃l o,c=(8,l,o)/\l<o/\x<o/\b+l<n/\bi left a (K xs (base+(b+l)))=6)
   (Q:=λc e=>e=st/\∃l o,c=(8,l,o)/\l<o/\b+l<n/\bi left a (K xs (base+(b+l)))=6 /\
    (n-b<=o\/bi left a (K xs (base+(b+o)))=5)) ?step ?fin ?init) ?post)
  case init=>show ⟨9,0,1,9,(),(),(),by simpa using hr⟩
  case fin=>
   rintro c e ⟨rfl,l,o,rfl,v,r,y,f⟩;show {9,l,o,9,v,y,f,.inl ()}
  case step=>
   rintro x c e _ hx ⟨rfl,l,o,rfl,v,r,y,f⟩;dsimp only
   by_cases q:o>=n-b
   ·rw[if_pos q]
    show wpS_pure {9,l,o,9,v,y,f,.inl q}
   ·rw[if_neg q]
    show wpS_bind (fc U N () ?_);dsimp only;cases z:bi left a (K xs (base+(b+o)))
    ·simp only[Bool.not_false,if_true]
     show wpS_pure {9,l,o,9,v,y,f,.inr z}
    ·simp only[L5,xN,if_false]
     show wpS_pure {9,o,2*o+1,9,(),(),(),z}
  case post=>
   rintro c e ⟨rfl,l,o,rfl,v,y,f,h5⟩;dsimp only;have B:b+l+1<=b+min o (n-b):=()
   have D:b+min o (n-b)<=n:=()
   have H:∀i,i<b+l+1->bi left a (K xs (base+i))=6:=λi hi=>mono i (b+l) () y f;have M:∀i,b+min o (n-b)<=i->i<n->bi left a (K xs (base+i))=5:=by
    intro i v r;let h5||h5:=h5
    ·omega
    ·show u (b+o) i () r h5
   generalize b+l+1=lo at B H ⊢;generalize b+min o (n-b)=hi at B D M ⊢;show wpS_bind (wpS_mono (wpS_forRange
     (I:=λx c d=>d=e/\∃lo hi,c=(8,lo,hi)/\lo<=hi/\hi<=n/\hi-lo<=n-x/\(∀i,i<lo->bi left a (K xs (base+i))=6) /\
      (∀i,hi<=i->i<n->bi left a (K xs (base+i))=5))
     (Q:=λc d=>d=e/\∃lo hi,c=(8,lo,hi)/\hi<=n/\(∀i,i<hi->bi left a (K xs (base+i))=6) /\
      (∀i,hi<=i->i<n->bi left a (K xs (base+i))=5)) ?aU ?gfin {9,lo,hi,9,B,D,(),H,M}) ?gpost)
   case gfin=>
    rintro c d ⟨rfl,lo,hi,rfl,v,r,y,f,h5⟩;have:lo=hi:=()
    subst this;show ⟨9,lo,lo,9,r,f,h5⟩
   case gpost=>
    rintro c d ⟨rfl,lo,hi,rfl,r,f,h5⟩;show wpS_pure (h hi r f h5)
   case aU=>
    rintro x c d _ hx ⟨rfl,lo,hi,rfl,v,r,y,f,h5⟩;dsimp only
    by_cases q:lo>=hi
    ·rw[if_pos q]
     have:lo=hi:=()
     subst this;show wpS_pure ⟨9,lo,lo,9,r,f,h5⟩
    ·rw[if_neg q]
     show wpS_bind (fc U N () ?_);dsimp only;cases z:bi left a (K xs (base+(lo+(hi-lo)/2)))
     ·simp only[xN,if_false]
      show wpS_pure {9,lo,lo+(hi-lo)/2,9,(),(),(),f,λi O h7=>u _ _ O h7 z}
     ·simp only[if_true]
      show wpS_pure {9,lo+(hi-lo)/2+1,hi,9,(),(),(),λi O=>mono i (lo+(hi-lo)/2) () () z,h5}
end
def oj(p:Keyed):3:=numOf p.1
def bU(x y:Keyed):Prop:=oj x<=oj y
def j8(h:i<xs.size):K xs i=oj xs[i]:=by
 unfold K oj;rw[getElem?_pos xs i h]
structure qj(T out R S:7 Keyed):Prop where
 perm:(out++R++S).Perm T
 so:out.Pairwise bU
 sR:R.Pairwise bU
 sS:S.Pairwise bU
 oR:∀x∈out,∀y∈R,bU x y
 oS:∀x∈out,∀y∈S,bU x y
def qj.takeA{T out j R2 S:7 Keyed}(h:qj T out (j++R2) S)(hc:∀x∈j,∀y∈S,bU x y):qj T (out++j) R2 S:=by
 let(p,a,b,c,d,e):=h;rw[JE]at b;show ⟨by simpa[Ju] using p,JE.mpr {a,b.1,λx hx y i=>d x hx y (JD _ i)},b.2.1,c,?_,?_⟩
 ·intro x hx y i
  let hx||hx:=Jc.mp hx
  ·show d x hx y (xC _ i)
  ·show b.2.2 x hx y i
 ·intro x hx y i
  let hx||hx:=Jc.mp hx
  ·show e x hx y i
  ·show hc x hx y i
def qj.flip{T out R S:7 Keyed}(h:qj T out R S):qj T out S R:=by
 let(p,a,b,c,d,e):=h;show {?_,a,c,b,e,d};show QD ?_ p;rw[Ju,Ju];show MR _ MS
def qj.takeB{T out R a b:7 Keyed}(h:qj T out R (a++b))(hc:∀x∈a,∀y∈R,bU x y):qj T (out++a) R b:=
 (h.flip.takeA hc).flip
def bj(T:7 Keyed)(r:Array Keyed):Prop:=r.toList.Perm T/\r.toList.Pairwise bU
def aX(a b out:Array Keyed)(c d:4):Prop:=qj (a.toList++b.toList) out.toList (a.toList.drop c) (b.toList.drop d)
def eF{xs:Array Keyed}{i k:4}:xs.toList.drop i=(xs.extract i (i+k)).toList++xs.toList.drop (i+k):=by
 rw[Nh,LV,Nat.add_sub_cancel_left,<- List.drop_drop,K1]
def ie(h:y∈xs.toList.drop i):∃j,i<=j/\j<xs.size/\oj y=K xs j:=by
 let(j,a,e):=Ku h;rw[JM,JH]at a;show {i+j,(),(),?_};rw[j8 (),<- e];congr 1;simp
def aR(h:y∈(xs.extract i k).toList):∃j,i<=j/\j<k/\j<xs.size/\oj y=K xs j:=by
 let(j,a,e):=Ku h;rw[JH,Nr]at a;show {i+j,(),(),(),?_};rw[j8 (),<- e];congr 1;simp
def aX.blockA{a b out:Array Keyed}{e n k:4}(h:aX a b out e n)
  (hc:∀i j,e<=i->i<e+k->i<a.size->n<=j->j<b.size->K a i<=K b j):aX a b (out++a.extract e (e+k)) (e+k) n:=by
 unfold aX at h ⊢;rw[eF (k:=k)]at h;rw[JK];show h.takeA λx t y u=>?_;let(i,i1,v,i3,q):=aR t;let(j,z,B,s):=ie u;unfold bU;rw[q,s];show hc i j i1 v i3 z B
def aX.blockB{a b out:Array Keyed}{n e k:4}(h:aX a b out n e)
  (hc:∀i j,n<=i->i<a.size->e<=j->j<e+k->j<b.size->K b j<=K a i):aX a b (out++b.extract e (e+k)) n (e+k):=by
 unfold aX at h ⊢;rw[eF (xs:=b) (k:=k)]at h;rw[JK];show h.takeB λx t y u=>?_;let(j,i1,v,i3,q):=aR t;let(i,z,B,s):=ie u;unfold bU;rw[q,s];show hc i j z B i1 v i3
def dh{xs:Array Keyed}{i:4}{x:Keyed}(e:xs[i]?=!x):xs.extract i (i+1)=#[x]:=by
 let(h,e):=Kr.mp e
 apply Array.ext
 ·simp;omega
 ·intro j b a
  simp at a;subst a;simp[e]
def aX.pushA{a b out:Array Keyed}{n q:4}{x:Keyed}(h:aX a b out n q)(e:a[n]?=!x)
  (hc:∀j,q<=j->j<b.size->K a n<=K b j):aX a b (out.push x) (n+1) q:=by
 have:=h.blockA (k:=1) λi j u v y s t=>by
  have:i=n:=()
  subst this;show hc j s t
 rwa [dh e,OF]at this
def aX.pushB{a b out:Array Keyed}{q n:4}{x:Keyed}(h:aX a b out q n)(e:b[n]?=!x)
  (hc:∀i,q<=i->i<a.size->K b n<=K a i):aX a b (out.push x) q (n+1):=by
 have:=h.blockB (k:=1) λi j s t u v y=>by
  have:j=n:=()
  subst this;show hc i s t
 rwa [dh e,OF]at this
def bG{xs:Array Keyed}{i:4}:(xs.extract i xs.size).toList=xs.toList.drop i:=by
 rw[Nh,LV,JS];rw[JM,JH];show oN _
def aX.doneB{a b out:Array Keyed}{j i:4}(h:aX a b out j i)(e:b.size<=i):
  bj (a.toList++b.toList) (out++a.extract j a.size++b.extract i b.size):=by
 unfold aX at h;have n:b.toList.drop i=[]:=Lg (by simpa using e);unfold bj;rw[JK,JK,bG,bG];show {h.perm,?_};rw[n,Kb];show JE.mpr ⟨h.so,h.sR,h.oR⟩
def aX.doneA{a b out:Array Keyed}{i j:4}(h:aX a b out i j)(e:a.size<=i):
  bj (a.toList++b.toList) (out++a.extract i a.size++b.extract j b.size):=by
 unfold aX at h;have n:a.toList.drop i=[]:=Lg (by simpa using e);unfold bj;rw[JK,JK,bG,bG];show {h.perm,?_};rw[n,Kb];show JE.mpr ⟨h.so,h.sS,h.oS⟩
def aX.last{a b out:Array Keyed}{n s:4}(h:aX a b out n s)(e:a.size<=n+1)
  (v:∀j,j<b.size->K b j<=K a (a.size-1)):bj (a.toList++b.toList) (out++b.extract s b.size++a.extract n a.size):=by
 unfold aX at h;unfold bj;rw[JK,JK,bG,bG];show {h.flip.perm,?_};show JE.mpr {JE.mpr ⟨h.so,h.sS,h.oS⟩,h.sR,λx hx y q=>?_};let hx||hx:=Jc.mp hx
 ·show h.oR x hx y q
 ·let(i,i1,B,t):=ie q
  let(j,C,z,u):=ie hx;have:i=a.size-1:=()
  subst this;unfold bU;rw[t,u];show v j z
def di(h:∀i j,i<=j->j<xs.size->K xs i<=K xs j):xs.toList.Pairwise bU:=by
 rw[LU];intro i j hi a b;have:=h i j () (by simpa using a);rw[j8 (by simpa using hi),j8 (by simpa using a)]at this
 simpa[bU] using this
def aX.init(e:∀i j,i<=j->j<a.size->K a i<=K a j)(n:∀i j,i<=j->j<b.size->K b i<=K b j):aX a b #[] 0 0:=by
 unfold aX;show ⟨by simp,by simp,by simpa using di e,by simpa using di n,by simp,by simp⟩
def kK:4->StateT SortSt QJ Unit:=sortPriv% PySem.Builtin.setMinGallop
abbrev pK(st:SortSt)(g:4):SortSt:=SortSt.mk' (kindOf st) (arrOf st) (pendingOf st) g (failedOf st)
def mX(g:4):kK g=modify λs=>pK s g:=9
def Bv:Array Keyed->Array Keyed->StateT SortSt QJ (Array Keyed):=sortPriv% PySem.Builtin.mergeLo
section
variable {prog:IY} {w:Je} {A:Jq} {E:n5->pe->Prop} {s:pe}
def eG(st a:SortSt):Prop:=kindOf a=kindOf st/\arrOf a=arrOf st/\pendingOf a=pendingOf st/\failedOf a=failedOf st
def eG.gal{st a:SortSt}(h:eG st a)(g:4):eG st (pK a g):=h
def ig{st:SortSt}(h:Q Jr (pK st g)):wpS (model prog w) A E s (kK g) Q st:=by
 rw[mX];show wpS_modify h
def zm{a b c:Type}{st:SortSt}{f:b->c->StateT SortSt QJ a}{p:StateT SortSt QJ a}{Q:a->SortSt->Prop}(P:b->c->SortSt->Prop)
  (h:∀x y t,P x y t->wpS (model prog w) A E s (f x y) Q t)
  (g:(∀x y t,P x y t->wpS (model prog w) A E s (f x y) Q t)->wpS (model prog w) A E s p Q st):wpS (model prog w) A E s p Q st:=g h
def uj{st:SortSt}(hk:kindOf st=oneType')(bT:IntKeys a)(aA:IntKeys b)
  (co:0<a.size) (cj:0<b.size)
  (sa:∀i j,i<=j->j<a.size->K a i<=K a j) (sb:∀i j,i<=j->j<b.size->K b i<=K b j)
  (a6:∀i,i<a.size->K b 0<=K a i) (O:∀j,j<b.size->K b j<=K a (a.size-1))
  (h:∀r M,eG st M->bj (a.toList++b.toList) r->Q r M):
  wpS (model prog w) A E s (Bv a b) Q st:=by
 show wpS_bind (wpS_lift (KU {9,?_}));let(t0,p0,e0):=aA.at cj;show wpS_bind (aN e0 ?_);have hI:aX a b (#[].push (.int (K b 0) t0,p0)) 0 1:=(aX.init sa sb).pushB e0 λi _ T=>a6 i T;have bt:aX a b #[(.int (K b 0) t0,p0)] 0 1:=hI
 by_cases bd:1=b.size
 ·rw[if_pos (by simpa using bd)]
  show wpS_pure (h _ _ ⟨9,9,9,9⟩ (bt.doneB ()))
 rw[if_neg (by simpa using bd)]
 by_cases a5:0+1=a.size
 ·rw[if_pos (by simpa using a5)]
  show wpS_pure (h _ _ ⟨9,9,9,9⟩ (bt.last () O))
 rw[if_neg (by simpa using a5)];show wpS_bind (wpS_get ?_)
 let b2:Nat->Option (Array Keyed)×Array Keyed×Nat×Nat×Nat->SortSt->Prop:=λx c M=>eG st M/\∃out H n mg,c=(8,out,H,n,mg)/\aX a b out H n/\H+1<a.size/\n<b.size/\x<H+n
 let b5:Option (Array Keyed)×Array Keyed×Nat×Nat×Nat->SortSt->Prop:=λc M=>eG st M/\∃r rest,c=(!r,rest)/\bj (a.toList++b.toList) r
 show wpS_bind (wpS_mono (wpS_forRange
  (I:=b2)
  (Q:=b5) ?step ?fin
  {⟨9,9,9,9⟩,_,0,1,_,9,bt,(),(),()}) ?post)
 case post=>
  rintro c M ⟨hG,r,rest,rfl,hr⟩;show wpS_pure (h r M hG hr)
 case fin=>
  rintro c M ⟨hG,out,H,n,mg,rfl,hL,h1,T,h3⟩;omega
 case step=>
  rintro x c M _ hx ⟨hG,out,H,n,mg,rfl,hL,a7,b0,cl⟩
  dsimp -zeta only
  let b3:Nat->Option (Array Keyed)×Array Keyed×Nat×Nat×Nat×Nat->SortSt->Prop:=λy c N=>eG st N/\∃q e l cs,c=(8,q,e,l,cs)/\aX a b q e l/\e+1<a.size/\l<b.size/\y+H+n<=e+l
  let ca:Option (Array Keyed)×Array Keyed×Nat×Nat×Nat×Nat->SortSt->Prop:=λc N=>eG st N/\((∃q e l cs,c=(8,q,e,l,cs)/\aX a b q e l/\e+1<a.size/\l<b.size/\H+n<e+l)\/(∃r rest,c=(!r,rest)/\bj (a.toList++b.toList) r))
  show wpS_bind (wpS_mono (wpS_forRange
   (I:=b3)
   (Q:=ca) ?step1 ?fin1 ⟨hG,_,_,_,_,9,hL,a7,b0,by dsimp only;omega⟩) ?post1)
  case fin1=>
   rintro c N ⟨u,q,e,l,cs,rfl,ab,h1,T,h3⟩;show {u,.inl {_,_,_,_,9,ab,h1,T,()}}
  case step1=>
   rintro y c N _ hy ⟨u,q,e,l,⟨ac,bc⟩,rfl,ab,h1,T,h3⟩;dsimp only;let(tb,pb,eb):=aA.at (i:=l) ();let(ta,pa,ea):=bT.at (i:=e) ();show wpS_bind (aN eb (wpS_bind (aN ea (wpS_bind (oO (u.1.trans hk) ?_)))));dsimp only
   by_cases a4:K b l<K a e
   ·simp only[a4,decide_true,if_true]
    show wpS_bind (aN eb ?_);have v:=ab.pushB eb λi h4 h5=>by have:=sa e i h4 h5;omega
    by_cases p:l+1=b.size
    ·rw[if_pos (by simpa using p)]
     show wpS_pure {u,.inr {_,_,9,v.doneB ()}}
    ·rw[if_neg (by simpa using p)]
     split
     ·show wpS_pure {u,.inl {_,_,_,_,9,v,(),(),()}}
     ·show wpS_pure {u,_,_,_,_,9,v,(),(),()}
   ·simp only[a4,decide_false,xN,if_false]
    show wpS_bind (aN ea ?_);have v:=ab.pushA ea λj h4 h5=>by have:=sb l j h4 h5;omega
    by_cases p:e+1+1=a.size
    ·rw[if_pos (by simpa using p)]
     show wpS_pure {u,.inr {_,_,9,v.last () O}}
    ·rw[if_neg (by simpa using p)]
     split
     ·show wpS_pure {u,.inl {_,_,_,_,9,v,(),(),()}}
     ·show wpS_pure {u,_,_,_,_,9,v,(),(),()}
  case post1=>
   rintro c N ⟨u,(⟨q,e,l,⟨ac,bc⟩,rfl,ab,h1,T,h3⟩ | ⟨r,⟨o2,i2,j2,cs⟩,rfl,hr⟩)⟩
   case inr=>
    dsimp only;show wpS_pure {u,r,_,9,hr}
   dsimp -zeta only
   show wpS_bind (wpS_lift (KU {9,?_}))
   let b4:Nat->Option (Array Keyed)×Array Keyed×Nat×Nat×Nat×Nat×Nat->SortSt->Prop:=λy c as=>eG st as/\∃D B C cs,c=(8,D,B,C,cs)/\aX a b D B C/\B+1<a.size/\C<b.size/\H+n<B+C
   let cd:Option (Array Keyed)×Array Keyed×Nat×Nat×Nat×Nat×Nat->SortSt->Prop:=λc as=>eG st as/\((∃D B C cs,c=(8,D,B,C,cs)/\aX a b D B C/\B+1<a.size/\C<b.size/\H+n<B+C)\/(∃r rest,c=(!r,rest)/\bj (a.toList++b.toList) r))
   show wpS_bind (wpS_mono (wpS_forRange
    (I:=b4)
    (Q:=cd) ?step2 ?fin2 {u,_,_,_,_,9,ab,h1,T,h3}) ?post2)
   case fin2=>
    rintro c as ⟨an,D,B,C,cs,rfl,U,h4,h5,h6⟩;show {an,.inl {_,_,_,_,9,U,h4,h5,h6}}
   case post2=>
    rintro c as ⟨an,(⟨D,B,C,⟨cn,cg,ch⟩,rfl,U,h4,h5,h6⟩ | ⟨r,⟨o2,i2,j2,c0,cs⟩,rfl,hr⟩)⟩
    ·dsimp only
     show wpS_bind (ig ?_);show wpS_pure {an.gal _,_,_,_,_,9,U,h4,h5,()}
    ·dsimp only
     show wpS_pure {an,r,_,9,hr}
   case step2=>
    clear hL ab cl hx a7 b0 h1 T;generalize hz:H+n=z;clear h3;rintro y c as _ hy ⟨an,out,H,n,⟨cn,cg,ch⟩,rfl,hL,a7,b0,h6⟩
    extract_lets -underBinder +onlyGivenNames s1 o s2 na s3 nb s4 mg s5 ac bc
    dsimp -zeta only [s1,na,s2,nb,s3,o,s4,mg,s5,ac,bc]
    extract_lets -underBinder +onlyGivenNames jp
    show zm (f:=jp) (λ_ _ t=>eG st t) ?_ λhj=>?_
    case' refine_2=>clear_value jp;split<;>show hj _ _ _ an
    clear bc ac s5 mg s4 nb s3 na s2 o s1;intro _ mg bb d;show wpS_bind (ig ?_);have d:=d.gal mg;generalize pK bb mg=bb at d ⊢;let(tb,pb,eb):=aA.at (i:=n) ();show wpS_bind (aN eb ?_);show wpS_bind (da (d.1.trans hk) bT () () (λi j h1 T=>sa _ _ () ()) λk b1 a3 a8=>?_)
    dsimp -zeta only
    extract_lets -underBinder +onlyGivenNames ac jp
    have bo:∀i,H+k<=i->i<a.size->K b n<=K a i:=by
     intro i h1 T;have q1:=a8 (i-H) () ();rw[show H+(i-H)=i by omega]at q1;simp[bi]at q1;omega
    show zm (f:=jp Jr) (λo1 i1 t=>eG st t/\aX a b o1 i1 n/\i1+1<a.size/\H<=i1/\∀i,i1<=i->i<a.size->K b n<=K a i) ?_ λhj=>?_
    case' refine_2=>
     clear_value jp
     split
     ·have ap:=hL.blockA (k:=k) λi j h1 T h3 h4 h5=>by
       have q1:=a3 (i-H) ();rw[show H+(i-H)=i by omega]at q1;have q2:=sb n j h4 h5;simp[bi]at q1;omega
      by_cases aC:H+k+1=a.size
      ·rw[if_pos (by simpa using aC)]
       show wpS_pure {d,.inr {_,_,9,ap.last () O}}
      ·rw[if_neg (by simpa using aC)]
       by_cases a0:H+k=a.size
       ·rw[if_pos (by simpa using a0)]
        show wpS_pure {d,.inr {_,_,9,ap.doneA ()}}
       ·rw[if_neg (by simpa using a0)]
        show hj _ _ _ {d,ap,(),(),bo}
     ·show hj _ _ _ {d,hL,a7,oN _,λi h1 T=>bo i () T}
    clear_value ac
    clear bo b1 a3 a8 hL eb d;rintro o1 i1 bb ⟨d,ap,cp,ct,ci⟩;let(c4,c2,bn):=aA.at (i:=n) ();show wpS_bind (aN bn ?_);have v:=ap.pushB bn ci
    by_cases p:n+1=b.size
    ·rw[if_pos (by simpa using p)]
     show wpS_pure {d,.inr {_,_,9,v.doneB ()}}
    rw[if_neg (by simpa using p)];let(c3,c1,bm):=bT.at (i:=i1) ();show wpS_bind (aN bm ?_);show wpS_bind (da (d.1.trans hk) aA () () (λi j h1 T=>sb _ _ () ()) λk1 b1 a3 a8=>?_)
    dsimp -zeta only
    extract_lets -underBinder +onlyGivenNames bc jp
    show zm (f:=jp Jr) (λo2 j1 t=>eG st t/\aX a b o2 i1 j1/\j1<b.size/\n+1+k1<=j1) ?_ λhj=>?_
    case' refine_2=>
     clear_value jp
     split
     ·have U:=v.blockB (k:=k1) λi j h1 T h3 h4 h5=>by
       have q1:=a3 (j-(n+1)) ();rw[show n+1+(j-(n+1))=j by omega]at q1;have q2:=sa i1 i h1 T;simp[bi]at q1;omega
      by_cases a1:n+1+k1=b.size
      ·rw[if_pos (by simpa using a1)]
       show wpS_pure {d,.inr {_,_,9,U.doneB ()}}
      ·rw[if_neg (by simpa using a1)]
       show hj _ _ _ {d,U,(),()}
     ·show hj _ _ _ {d,v,(),()}
    clear_value bc
    clear a3 v ap d bn;rintro o2 j1 bb ⟨d,U,cv,cA⟩;show wpS_bind (aN bm ?_);have bA:=U.pushA bm λj h1 T=>by
     have q1:=a8 (j-(n+1)) () ();rw[show n+1+(j-(n+1))=j by omega]at q1;simp[bi]at q1;omega
    by_cases a2:i1+1+1=a.size
    ·rw[if_pos (by simpa using a2)]
     show wpS_pure {d,.inr {_,_,9,bA.last () O}}
    rw[if_neg (by simpa using a2)]
    split
    ·show wpS_pure {d,.inl {_,_,_,_,9,bA,(),(),()}}
    ·show wpS_pure {d,_,_,_,_,9,bA,(),(),()}
end
structure qk(T out R S:7 Keyed):Prop where
 perm:(R++S++out).Perm T
 so:out.Pairwise bU
 sR:R.Pairwise bU
 sS:S.Pairwise bU
 oR:∀y∈R,∀x∈out,bU y x
 oS:∀y∈S,∀x∈out,bU y x
def qk.flip{T out R S:7 Keyed}(h:qk T out R S):qk T out S R:=by
 let(p,a,b,c,d,e):=h;show {QD (MG _ MS) p,a,c,b,e,d}
def qk.takeB{T out R n j:7 Keyed}(h:qk T out R (n++j))(hc:∀y∈R,∀x∈j,bU y x):qk T (j++out) R n:=by
 let(p,a,b,c,d,e):=h;rw[JE]at c;show ⟨by simpa[Ju] using p,JE.mpr {c.2.1,a,λx hx y i=>e x (xC _ hx) y i},b,c.1,?_,?_⟩
 ·intro y i x hx
  let hx||hx:=Jc.mp hx
  ·show hc y i x hx
  ·show d y i x hx
 ·intro y i x hx
  let hx||hx:=Jc.mp hx
  ·show c.2.2 y i x hx
  ·show e y (JD _ i) x hx
def qk.takeA{T out a R2 S:7 Keyed}(h:qk T out (a++R2) S)(hc:∀y∈S,∀x∈R2,bU y x):qk T (R2++out) a S:=
 (h.flip.takeB hc).flip
def aY(a b out:Array Keyed)(c nb:4):Prop:=qk (a.toList++b.toList) out.reverse.toList (a.extract 0 c).toList (b.extract 0 nb).toList
def l5{xs:Array Keyed}{i n:4}(h:i<=n):(xs.extract 0 n).toList=(xs.extract 0 i).toList++(xs.extract i n).toList:=by
 rw[<- JK,Array.extract_append_extract,Mp (Jd _),Oc h]
def aY.blockA{a b out:Array Keyed}{e nb i:4}(h:aY a b out e nb)(hi:i<=e)
  (hc:∀x y,i<=x->x<e->x<a.size->y<nb->y<b.size->K b y<=K a x):aY a b (out++(a.extract i e).reverse) i nb:=by
 unfold aY at h ⊢;rw[l5 hi]at h;rw[O5,OO,JK];show h.takeA λy s x q=>?_;let(z,i1,t,i3,j):=aR q;let(B,C,u,v,n):=aR s;unfold bU;rw[j,n];show hc z B i1 t i3 u v
def aY.blockB{a b out:Array Keyed}{e nb i:4}(h:aY a b out e nb)(hi:i<=nb)
  (hc:∀x y,x<e->x<a.size->i<=y->y<nb->y<b.size->K a x<=K b y):aY a b (out++(b.extract i nb).reverse) e i:=by
 unfold aY at h ⊢;rw[l5 (xs:=b) hi]at h;rw[O5,OO,JK];show h.takeB λy s x q=>?_;let(z,i1,t,i3,j):=aR q;let(B,C,u,v,n):=aR s;unfold bU;rw[j,n];show hc B z u v i1 t i3
def aY.pushA{a b out:Array Keyed}(h:aY a b out n nb)(B:1<=n)(e:a[n-1]?=!x)
  (hc:∀y,y<nb->y<b.size->K b y<=K a (n-1)):aY a b (out.push x) (n-1) nb:=by
 have:=h.blockA (i:=n-1) () λi j u v z s t=>by
  have:i=n-1:=()
  subst this;show hc j s t
 have q:=dh e;rw[show n-1+1=n by omega]at q;rw[q]at this
 simpa using this
def aY.pushB{a b out:Array Keyed}(h:aY a b out q nb)(z:1<=nb)(e:b[nb-1]?=!x)
  (hc:∀i,i<q->i<a.size->K a i<=K b (nb-1)):aY a b (out.push x) q (nb-1):=by
 have:=h.blockB (i:=nb-1) () λi j s t u v y=>by
  have:j=nb-1:=()
  subst this;show hc i s t
 have n:=dh e;rw[show nb-1+1=nb by omega]at n;rw[n]at this
 simpa using this
def aY.doneA{a b out:Array Keyed}(h:aY a b out i nb)(e:i=0):
  bj (a.toList++b.toList) (a.extract 0 i++b.extract 0 nb++out.reverse):=by
 unfold aY at h;subst e;unfold bj;rw[JK,JK];show {h.perm,?_};have j:(a.extract 0 0).toList=[]:=by simp
 rw[j,NC];show JE.mpr ⟨h.sS,h.so,h.oS⟩
def aY.doneB{a b out:Array Keyed}(h:aY a b out j nb)(e:nb=0):
  bj (a.toList++b.toList) (a.extract 0 j++b.extract 0 nb++out.reverse):=by
 unfold aY at h;subst e;unfold bj;rw[JK,JK];show {h.perm,?_};have i:(b.extract 0 0).toList=[]:=by simp
 rw[i,Kb];show JE.mpr ⟨h.sR,h.so,h.oR⟩
def aY.first{a b out:Array Keyed}(h:aY a b out u nb)(e:nb=1)
  (t:∀i,i<a.size->K b 0<=K a i):bj (a.toList++b.toList) (b.extract 0 nb++a.extract 0 u++out.reverse):=by
 unfold aY at h;unfold bj;rw[JK,JK];show {h.flip.perm,?_};rw[Ju];show JE.mpr {h.sS,JE.mpr ⟨h.sR,h.so,h.oR⟩,λx n y hy=>?_};let hy||hy:=Jc.mp hy
 ·let(i,i1,v,i3,q):=aR hy
  let(j,z,B,C,s):=aR n;have:j=0:=()
  subst this;unfold bU;rw[q,s];show t i i3
 ·show h.oS x n y hy
def aY.init(e:∀i j,i<=j->j<a.size->K a i<=K a j)(n:∀i j,i<=j->j<b.size->K b i<=K b j):aY a b #[] a.size b.size:=by
 unfold aY;show ⟨by simp,by simp,by simpa using di e,by simpa using di n,by simp,by simp⟩
def Bw:Array Keyed->Array Keyed->StateT SortSt QJ (Array Keyed):=sortPriv% PySem.Builtin.mergeHi
section
variable {prog:IY} {w:Je} {A:Jq} {E:n5->pe->Prop} {s:pe}
def uk{st:SortSt}(hk:kindOf st=oneType')(a6:IntKeys a)(a7:IntKeys b)
  (co:0<a.size) (cp:0<b.size)
  (sa:∀i j,i<=j->j<a.size->K a i<=K a j) (sb:∀i j,i<=j->j<b.size->K b i<=K b j)
  (C:∀i,i<a.size->K b 0<=K a i) (b0:∀j,j<b.size->K b j<=K a (a.size-1))
  (h:∀r M,eG st M->bj (a.toList++b.toList) r->Q r M):
  wpS (model prog w) A E s (Bw a b) Q st:=by
 show wpS_bind (wpS_lift (KU {9,?_}));let(t0,p0,e0):=a6.at (i:=a.size-1) ();show wpS_bind (aN e0 ?_);have hI:aY a b (#[].push (.int (K a (a.size-1)) t0,p0)) (a.size-1) b.size:=(aY.init sa sb).pushA () e0 λi _ h2=>b0 i h2;have bo:aY a b #[(.int (K a (a.size-1)) t0,p0)] (a.size-1) b.size:=hI
 by_cases bb:a.size-1=0
 ·rw[if_pos (by simpa using bb)]
  show wpS_pure (h _ _ ⟨9,9,9,9⟩ (bo.doneA ()))
 rw[if_neg (by simpa using bb)]
 by_cases a5:b.size=1
 ·rw[if_pos (by simpa using a5)]
  show wpS_pure (h _ _ ⟨9,9,9,9⟩ (bo.first () C))
 rw[if_neg (by simpa using a5)];show wpS_bind (wpS_get ?_)
 let b3:Nat->Option (Array Keyed)×Nat×Nat×Array Keyed×Nat->SortSt->Prop:=λx c M=>eG st M/\∃out ia H mg,c=(8,ia,H,out,mg)/\aY a b out ia H/\1<=ia/\ia<=a.size/\2<=H/\H<=b.size/\x+ia+H<a.size+b.size
 let ca:Option (Array Keyed)×Nat×Nat×Array Keyed×Nat->SortSt->Prop:=λc M=>eG st M/\∃r rest,c=(!r,rest)/\bj (a.toList++b.toList) r
 show wpS_bind (wpS_mono (wpS_forRange
  (I:=b3)
  (Q:=ca) ?step ?fin ?init) ?post)
 case init=>show {⟨9,9,9,9⟩,_,a.size-1,b.size,_,9,bo,(),(),(),(),()}
 case post=>
  rintro c M ⟨hG,r,rest,rfl,hr⟩;show wpS_pure (h r M hG hr)
 case fin=>
  rintro c M ⟨hG,out,ia,H,mg,rfl,hL,h1,h2,h3,h4,h5⟩;omega
 case step=>
  rintro x c M _ hx ⟨hG,out,ia,H,mg,rfl,hL,bA,a2,bT,a3,cl⟩
  dsimp -zeta only
  let b4:Nat->Option (Array Keyed)×Nat×Nat×Array Keyed×Nat×Nat->SortSt->Prop:=λy c N=>eG st N/\∃u e l cs,c=(8,e,l,u,cs)/\aY a b u e l/\1<=e/\e<=a.size/\2<=l/\l<=b.size/\y+e+l<=ia+H
  let cd:Option (Array Keyed)×Nat×Nat×Array Keyed×Nat×Nat->SortSt->Prop:=λc N=>eG st N/\((∃u e l cs,c=(8,e,l,u,cs)/\aY a b u e l/\1<=e/\e<=a.size/\2<=l/\l<=b.size/\e+l<ia+H)\/(∃r rest,c=(!r,rest)/\bj (a.toList++b.toList) r))
  show wpS_bind (wpS_mono (wpS_forRange
   (I:=b4)
   (Q:=cd) ?step1 ?fin1 ?init1) ?post1)
  case init1=>show ⟨hG,_,_,_,_,9,hL,bA,a2,bT,a3,by dsimp only;omega⟩
  case fin1=>
   rintro c N ⟨v,u,e,l,cs,rfl,T,h1,h2,h3,h4,h5⟩;show {v,.inl {_,_,_,_,9,T,h1,h2,h3,h4,()}}
  case step1=>
   rintro y c N _ hy ⟨v,u,e,l,⟨ac,bc⟩,rfl,T,h1,h2,h3,h4,h5⟩;dsimp only;let(tb,pb,eb):=a7.at (i:=l-1) ();let(ta,pa,ea):=a6.at (i:=e-1) ();show wpS_bind (aN eb (wpS_bind (aN ea (wpS_bind (oO (v.1.trans hk) ?_)))));dsimp only
   by_cases a4:K b (l-1)<K a (e-1)
   ·simp only[a4,decide_true,if_true]
    show wpS_bind (aN ea ?_);have B:=T.pushA h1 ea λj h4 h5=>by have:=sb j (l-1) () ();omega
    by_cases q:e-1=0
    ·rw[if_pos (by simpa using q)]
     show wpS_pure {v,.inr {_,_,9,B.doneA ()}}
    ·rw[if_neg (by simpa using q)]
     split
     ·show wpS_pure {v,.inl {_,_,_,_,9,B,(),(),(),(),()}}
     ·show wpS_pure {v,_,_,_,_,9,B,(),(),(),(),()}
   ·simp only[a4,decide_false,xN,if_false]
    show wpS_bind (aN eb ?_);have B:=T.pushB () eb λj h4 h5=>by have:=sa j (e-1) () ();omega
    by_cases q:l-1=1
    ·rw[if_pos (by simpa using q)]
     show wpS_pure {v,.inr {_,_,9,B.first () C}}
    ·rw[if_neg (by simpa using q)]
     split
     ·show wpS_pure {v,.inl {_,_,_,_,9,B,(),(),(),(),()}}
     ·show wpS_pure {v,_,_,_,_,9,B,(),(),(),(),()}
  case post1=>
   rintro c N ⟨v,(⟨u,e,l,⟨ac,bc⟩,rfl,T,h1,h2,h3,h4,h5⟩ | ⟨r,⟨o2,i2,j2,cs⟩,rfl,hr⟩)⟩
   case inr=>
    dsimp only;show wpS_pure {v,r,_,9,hr}
   dsimp -zeta only
   show wpS_bind (wpS_lift (KU {9,?_}))
   let b5:Nat->Option (Array Keyed)×Nat×Nat×Array Keyed×Nat×Nat×Nat->SortSt->Prop:=λy c ap=>eG st ap/\∃D n p cs,c=(8,n,p,D,cs)/\aY a b D n p/\1<=n/\n<=a.size/\2<=p/\p<=b.size/\n+p<ia+H
   let cg:Option (Array Keyed)×Nat×Nat×Array Keyed×Nat×Nat×Nat->SortSt->Prop:=λc ap=>eG st ap/\((∃D n p cs,c=(8,n,p,D,cs)/\aY a b D n p/\1<=n/\n<=a.size/\2<=p/\p<=b.size/\n+p<ia+H)\/(∃r rest,c=(!r,rest)/\bj (a.toList++b.toList) r))
   show wpS_bind (wpS_mono (wpS_forRange
    (I:=b5)
    (Q:=cg) ?step2 ?fin2 {v,_,_,_,_,9,T,h1,h2,h3,h4,h5}) ?post2)
   case fin2=>
    rintro c ap ⟨ab,D,n,p,cs,rfl,O,h4,h5,h6,h7,h8⟩;show {ab,.inl {_,_,_,_,9,O,h4,h5,h6,h7,h8}}
   case post2=>
    rintro c ap ⟨ab,(⟨D,n,p,⟨cn,ch,ci⟩,rfl,O,h4,h5,h6,h7,h8⟩ | ⟨r,⟨o2,i2,j2,c2,cs⟩,rfl,hr⟩)⟩
    ·dsimp only
     show wpS_bind (ig ?_);show wpS_pure {ab.gal _,_,_,_,_,9,O,h4,h5,h6,h7,()}
    ·dsimp only
     show wpS_pure {ab,r,_,9,hr}
   case step2=>
    clear hL T cl hx bA bT a2 a3 h1 h2 h3 h4;generalize hz:ia+H=z;clear h5;rintro y c ap _ hy ⟨ab,out,ia,H,⟨cn,ch,ci⟩,rfl,hL,bA,a2,bT,a3,h6⟩
    extract_lets -underBinder +onlyGivenNames s1 na s2 nb s3 o s4 mg s5 ac bc
    dsimp -zeta only [s1,na,s2,nb,s3,o,s4,mg,s5,ac,bc]
    extract_lets -underBinder +onlyGivenNames jp
    show zm (f:=jp) (λ_ _ t=>eG st t) ?_ λhj=>?_
    case' refine_2=>clear_value jp;split<;>show hj _ _ _ ab
    clear bc ac s5 mg s4 o s3 nb s2 na s1;intro _ mg a8 d;show wpS_bind (ig ?_);have d:=d.gal mg;generalize pK a8 mg=a8 at d ⊢;let(tb,pb,eb):=a7.at (i:=H-1) ();show wpS_bind (aN eb ?_);show wpS_bind (da (d.1.trans hk) a6 () () (λi j h1 h2=>sa _ _ () ()) λk b2 an U=>?_)
    dsimp -zeta only
    extract_lets -underBinder +onlyGivenNames k' ac jp
    simp only[LQ]at an U;have bn:∀i,i<k->i<a.size->K a i<=K b (H-1):=by
     intro i h1 h2;have q1:=an i h1;simp[bi]at q1;omega
    show zm (f:=jp Jr) (λi1 o1 t=>eG st t/\aY a b o1 i1 H/\1<=i1/\i1<=ia/\∀i,i<i1->i<a.size->K a i<=K b (H-1)) ?_ λhj=>?_
    case' refine_2=>
     clear_value jp
     split
     ·have as:=hL.blockA (i:=k) () λi j h1 h2 h3 h4 h5=>by
       have q1:=U i () ();have q2:=sb j (H-1) () ();simp[bi]at q1;omega
      by_cases aA:k=0
      ·rw[if_pos (by simpa using aA)]
       show wpS_pure {d,.inr {_,_,9,as.doneA ()}}
      ·rw[if_neg (by simpa using aA)]
       show hj _ _ _ {d,as,(),(),bn}
     ·have b1:k=ia:=()
      subst b1;show hj _ _ _ {d,hL,(),(),bn}
    clear bn b2 an U hL eb d;rintro i1 o1 a8 ⟨d,as,ct,cv,cj⟩
    clear_value ac
    clear k';let(c6,c4,bm):=a7.at (i:=H-1) ();show wpS_bind (aN bm ?_);have B:=as.pushB () bm cj
    by_cases q:H-1=1
    ·rw[if_pos (by simpa using q)]
     show wpS_pure {d,.inr {_,_,9,B.first () C}}
    rw[if_neg (by simpa using q)];let(c5,c3,bd):=a6.at (i:=i1-1) ();show wpS_bind (aN bd ?_);show wpS_bind (da (d.1.trans hk) a7 () () (λi j h1 h2=>sb _ _ () ()) λk1 b2 an U=>?_)
    dsimp -zeta only
    extract_lets -underBinder +onlyGivenNames k' bc jp
    simp only[LQ]at an U;show zm (f:=jp Jr) (λj1 o2 t=>eG st t/\aY a b o2 i1 j1/\2<=j1/\j1<=H-1/\j1<=k1) ?_ λhj=>?_
    case' refine_2=>
     clear_value jp
     split
     ·have O:=B.blockB (i:=k1) () λi j h1 h2 h3 h4 h5=>by
       have q1:=U j () ();have q2:=sa i (i1-1) () ();simp[bi]at q1;omega
      by_cases aC:k1=1
      ·rw[if_pos (by simpa using aC)]
       show wpS_pure {d,.inr {_,_,9,O.first () C}}
      ·rw[if_neg (by simpa using aC)]
       by_cases a1:k1=0
       ·rw[if_pos (by simpa using a1)]
        show wpS_pure {d,.inr {_,_,9,O.doneB ()}}
       ·rw[if_neg (by simpa using a1)]
        show hj _ _ _ {d,O,(),(),()}
     ·show hj _ _ _ {d,B,(),(),()}
    clear_value bc
    clear k' U B as d bm;rintro j1 o2 a8 ⟨d,O,cA,c0,c1⟩;show wpS_bind (aN bd ?_);have bt:=O.pushA () bd λj h1 h2=>by
     have q1:=an j ();simp[bi]at q1;omega
    by_cases a0:i1-1=0
    ·rw[if_pos (by simpa using a0)]
     show wpS_pure {d,.inr {_,_,9,bt.doneA ()}}
    rw[if_neg (by simpa using a0)]
    split
    ·show wpS_pure {d,.inl {_,_,_,_,9,bt,(),(),(),(),()}}
    ·show wpS_pure {d,_,_,_,_,9,bt,(),(),(),(),()}
end
def ba(xs:Array Keyed)(lo hi:4):Prop:=∀i j,lo<=i->i<=j->j<hi->K xs i<=K xs j
def ba.join{lo mid hi:4}(q:ba xs lo mid)(s:ba xs mid hi)(h:lo<mid->mid<hi->K xs (mid-1)<=K xs mid):ba xs lo hi:=by
 intro i j a b t
 by_cases n:j<mid
 ·show q i j a b n
 by_cases e:mid<=i
 ·show s i j e b t
 have u:=q i (mid-1) a () ();have v:=s mid j (oN _) () t;have y:=h () ();omega
def bD(xs:Array Keyed)(b:4)(l:7 (Keyed×4)):Array Keyed:=l.foldl (λa x=>a.setIfInBounds (b+x.2) x.1) xs
def jn(a k:4):∀(l:7 Keyed) (n:4) (xs:Array Keyed),a+n+l.length<=xs.size->
  (bD xs a (l.zipIdx n))[k]?=if a+n<=k/\k<a+n+l.length then l[k-(a+n)]? else xs[k]?
 | [],n,xs,_=>by
  rw[if_neg (by rw[Jo];omega)];rfl
 | x::l,n,xs,h=>by
  rw[Og];show (bD (xs.setIfInBounds (a+n) x) a (l.zipIdx (n+1)))[k]?=_;rw[vl]at h ⊢;rw[jn a k l (n+1) _ (by rw[Array.size_setIfInBounds];omega)]
  by_cases c:k=a+n
  ·subst c
   rw[if_neg (),if_pos (),Ob,Oh,LF ()]
  ·by_cases b:a+n<=k/\k<a+n+(l.length+1)
   ·rw[if_pos (),if_pos b,show k-(a+n)=(k-(a+(n+1)))+1 by omega,Mr]
   ·rw[if_neg (),if_neg b,Ka ()]
def sD(h:a+l.length<=xs.size):
  (bD xs a l.zipIdx).toList=xs.toList.take a++l++xs.toList.drop (a+l.length):=by
 apply KQ
 intro k;rw[K7,jn a k l 0 xs ()];rw[Ju,Md,Md,Jn,JH (xs:=xs),Mp (),Ml]
 by_cases b:k<a
 ·rw[if_neg (),if_pos b,Lk b,K7]
 ·rw[if_neg b]
  by_cases c:k-a<l.length
  ·rw[if_pos (),if_pos c];rfl
  ·rw[if_neg (),if_neg c,K7]
   congr 1;omega
def Bx{xs:Array Keyed}{i j k:4}(d:i<=j)(e:j<=k):
  xs.toList=xs.toList.take i++((xs.extract i j).toList++(xs.extract j k).toList)++xs.toList.drop k:=by
 have b:xs.toList.drop i=(xs.extract i j).toList++xs.toList.drop j:=by
  have:=eF (xs:=xs) (i:=i) (k:=j-i)
  rwa [show i+(j-i)=j by omega]at this
 have c:xs.toList.drop j=(xs.extract j k).toList++xs.toList.drop k:=by
  have:=eF (xs:=xs) (i:=j) (k:=k-j)
  rwa [show j+(k-j)=k by omega]at this
 have a:=(K1 i xs.toList).symm;rw[b,c]at a;rw[Ju,Ju];show a
def bx{lo hi i:4}(h:lo+i<hi)(a:hi<=xs.size):K (xs.extract lo hi) i=K xs (lo+i):=by
 apply K_congr
 rw[Array.getElem?_extract,if_pos ()]
def IntKeys.extract(h:IntKeys xs){lo hi:4}:IntKeys (xs.extract lo hi):=by
 intro p hp;show h p ?_;rw[Nh,LV]at hp;show Lz (K8 hp)
def sG{xs r:Array Keyed}{a b k d nb:4}(hk:k<=b-a)(h1:a<=b)(hn:d<=nb)(hb:b+nb<=xs.size)
  (D:ba xs a b) (A:ba xs b (b+nb)) (ab:a+k<b) (ac:0<d)
  (T:∀i,a<=i->i<a+k->K xs i<=K xs b) (U:∀j,d<=j->j<nb->K xs (b-1)<=K xs (b+j))
  (hr:bj ((xs.extract (a+k) b).toList++(xs.extract b (b+d)).toList) r):
  (bD xs (a+k) r.toList.zipIdx).Perm xs/\ba (bD xs (a+k) r.toList.zipIdx) a (b+nb) /\
   (∀i,i<a\/b+nb<=i->(bD xs (a+k) r.toList.zipIdx)[i]?=xs[i]?):=by
 let(hp,hs):=hr;have t:r.toList.length=b-(a+k)+d:=by
  rw[hp.length_eq,sB,JH,JH,Nr,Nr];omega
 have o:a+k+r.toList.length<=xs.size:=()
 have c:∀i,(bD xs (a+k) r.toList.zipIdx)[i]?=if a+k<=i/\i<b+d then r.toList[i-(a+k)]? else xs[i]?:=by
  intro i;rw[jn (a+k) i r.toList 0 xs (),t]
  by_cases hc:a+k<=i/\i<b+d
  ·rw[if_pos hc,if_pos ()];rfl
  ·rw[if_neg hc,if_neg ()]
 have f:∀i,¬ (a+k<=i/\i<b+d)->K (bD xs (a+k) r.toList.zipIdx) i=K xs i:=λi hi=>K_congr (by rw[c,if_neg hi]);have s:∀i,a+k<=i->i<b+d->∃p,a+k<=p/\p<b+d/\K (bD xs (a+k) r.toList.zipIdx) i=K xs p:=by
  intro i i1 i2;have H:i-(a+k)<r.toList.length:=()
  have e:(bD xs (a+k) r.toList.zipIdx)[i]?=!r.toList[i-(a+k)]:=by
   rw[c,if_pos ⟨i1,i2⟩,li H]
  have hm:r.toList[i-(a+k)]∈(xs.extract (a+k) b).toList++(xs.extract b (b+d)).toList:=hp.mem_iff.mp (Mo H);have E:K (bD xs (a+k) r.toList.zipIdx) i=oj r.toList[i-(a+k)]:=by unfold K oj;rw[e]
  let hm||hm:=Jc.mp hm
  ·let(p,y,z,p3,n):=aR hm
   show ⟨p,y,(),by rw[E,n]⟩
  ·let(p,y,z,p3,n):=aR hm
   show ⟨p,(),z,by rw[E,n]⟩
 show {?_,?_,?_}
 ·rw[NM,sD o]
  conv=>rhs;rw[Bx (xs:=xs) (i:=a+k) (j:=b) (k:=b+d) () ()]
  rw[show a+k+r.toList.length=b+d by omega];show MG _ (MR _ hp)
 ·intro i j h q l
  by_cases v:a+k<=i/\i<b+d
  ·by_cases x:j<b+d
   ·
    have I:i-(a+k)<r.toList.length:=()
    have M:j-(a+k)<r.toList.length:=()
    have O:K (bD xs (a+k) r.toList.zipIdx) i=oj r.toList[i-(a+k)]:=by
     unfold K oj;rw[c,if_pos v,li I]
    have Q:K (bD xs (a+k) r.toList.zipIdx) j=oj r.toList[j-(a+k)]:=by
     unfold K oj;rw[c,if_pos (),li M]
    rw[O,Q]
    by_cases hd:i=j
    ·subst hd;show JZ _
    ·show LU.mp hs _ _ I M ()
   ·rw[f j ()]
    let(p,y,z,n):=s i v.1 v.2;rw[n]
    by_cases u:p<b
    ·have a1:=D p (b-1) () () ()
     have N:=U (j-b) () ();rw[show b+(j-b)=j by omega]at N;omega
    ·show A p j () () l
  ·rw[f i v]
   by_cases C:i<a+k
   ·have a0:=T i h C
    by_cases x:a+k<=j/\j<b+d
    ·let(p,y,z,n):=s j x.1 x.2
     rw[n]
     by_cases u:p<b
     ·show D i p h () u
     ·have:=A b p (oN _) () ();omega
    ·rw[f j x]
     by_cases B:j<b
     ·show D i j h q B
     ·have:=A b j (oN _) () l;omega
   ·rw[f j ()]
    show A i j () q l
 ·intro i hi
  rw[c,if_neg ()]
section
variable {prog:IY} {w:Je} {A:Jq} {E:n5->pe->Prop} {s:pe}
def Dn{σ:Type}{M:Qb}{Q:PUnit->σ->Prop}{st a:σ}(h:Q ⟨⟩ a):wpS M A E s (set a:StateT σ QJ PUnit) Q st:=by
 unfold wpS;rw[StateT.run_set];show ri ⟨9,h⟩
def ul{st:SortSt}{i a b pw nb ab:4}{Q:Bool->SortSt->Prop}(f:kindOf st=oneType')(z:failedOf st=8)
  (e:IntKeys (arrOf st)) (p1:(pendingOf st)[i]?=!(a,b,pw)) (p2:(pendingOf st)[i+1]?=!(a+b,nb,ab))
  (N:0<b) (O:0<nb) (hb:a+b+nb<=(arrOf st).size)
  (l:ba (arrOf st) a (a+b)) (n:ba (arrOf st) (a+b) (a+b+nb))
  (h:∀c,kindOf c=oneType'->failedOf c=8->(arrOf c).Perm (arrOf st)->
   pendingOf c=((pendingOf st).setIfInBounds i (a,b+nb,pw)).eraseIdxIfInBounds (i+1)->
   ba (arrOf c) a (a+b+nb)->(∀j,j<a\/a+b+nb<=j->(arrOf c)[j]?=(arrOf st)[j]?)->Q 6 c):
  wpS (model prog w) A E s (mergeAt' i) Q st:=by
 let(κ,xs,y,mg,fl):=st;dsimp only[arrOf,kindOf,failedOf,pendingOf]at f z e p1 p2 hb l n h;show wpS_bind (wpS_get ?_);dsimp only;rw[p1,p2];dsimp only;show wpS_bind (Dn ?_);let(tb,qb,eb):=e.at (i:=a+b) ();show wpS_bind (aN eb ?_);show wpS_bind (da f e () N (λi j h1 h2=>l _ _ () () ()) λk ac p D=>?_);dsimp only
 by_cases u:b-k=0
 ·rw[if_pos (by simpa using u)]
  show wpS_pure (h _ f z (Ly _) 9 (l.join n λ_ _=>?_) λ_ _=>rfl);have q1:=p (b-1) ();rw[show a+(b-1)=a+b-1 by omega]at q1;simp[bi]at q1;show q1
 rw[if_neg (by simpa using u)];rw[show a+k+(b-k)-1=a+b-1 by omega];let(ta,qa,ea):=e.at (i:=a+b-1) ();show wpS_bind (aN ea ?_);show wpS_bind (da f e () () (λi j h1 h2=>n _ _ () () ()) λd H I M=>?_);dsimp only;have g2:∀j,d<=j->j<nb->K xs (a+b-1)<=K xs (a+b+j):=by
  intro j j1 j2;have q1:=M j j1 j2;simp[bi]at q1;show q1
 by_cases t:d=0
 ·rw[if_pos (by simpa using t)]
  show wpS_pure (h _ f z (Ly _) 9 (l.join n λ_ _=>?_) λ_ _=>rfl);show g2 0 () O
 rw[if_neg (by simpa using t)];have g1:∀i,a<=i->i<a+k->K xs i<=K xs (a+b):=by
  intro i i1 i2;have q1:=p (i-a) ();rw[show a+(i-a)=i by omega]at q1;simp[bi]at q1;show q1
 have T:(xs.extract (a+k) (a+b)).size=b-k:=by rw[Nr];omega
 have an:(xs.extract (a+b) (a+b+d)).size=d:=by rw[Nr];omega
 have v:∀i j,i<=j->j<(xs.extract (a+k) (a+b)).size->K (xs.extract (a+k) (a+b)) i<=K (xs.extract (a+k) (a+b)) j:=by
  intro i j C B;rw[bx () (),bx () ()];show l _ _ () () ()
 have x:∀i j,i<=j->j<(xs.extract (a+b) (a+b+d)).size->K (xs.extract (a+b) (a+b+d)) i<=K (xs.extract (a+b) (a+b+d)) j:=by
  intro i j C B;rw[bx () (),bx () ()];show n _ _ () () ()
 have kf:∀i,i<(xs.extract (a+k) (a+b)).size->K (xs.extract (a+b) (a+b+d)) 0<=K (xs.extract (a+k) (a+b)) i:=by
  intro i hi;rw[bx () (),bx () ()];have q1:=D (k+i) () ();rw[show a+(k+i)=a+k+i by omega]at q1;simp[bi]at q1;simp only[Qk];omega
 have kl:∀j,j<(xs.extract (a+b) (a+b+d)).size->K (xs.extract (a+b) (a+b+d)) j <=
   K (xs.extract (a+k) (a+b)) ((xs.extract (a+k) (a+b)).size-1):=by
  intro j B;rw[bx () (),bx () (),T,show a+k+(b-k-1)=a+b-1 by omega];have q1:=I j ();simp[bi]at q1;omega
 have o:∀r c,eG (SortSt.mk' κ xs ((y.setIfInBounds i (a,b+nb,pw)).eraseIdxIfInBounds (i+1)) mg fl) c->
   bj ((xs.extract (a+k) (a+b)).toList++(xs.extract (a+b) (a+b+d)).toList) r->
   wpS (model prog w) A E s (do
    modify λs=>setArr s (bD (arrOf s) (a+k) r.toList.zipIdx)
    return (failedOf (<- get)).isNone) Q c:=by
  rintro r c ⟨e1,e2,e3,e4⟩ hr;show wpS_bind (wpS_modify (wpS_bind (wpS_get (wpS_pure ?_))));have ef:failedOf c=8:=e4.trans z;have ea:arrOf c=xs:=e2;let(U,m2,m3):=sG (nb:=nb) (k:=k) () () H hb l n () () g1 g2 hr;rw[<- ea]at U m2 m3;have:=h (setArr c (bD (arrOf c) (a+k) r.toList.zipIdx)) (e1.trans f) ef (by rw[ea]at U ⊢;show U) e3 m2 (λj B=>by rw[<- ea];show m3 j B);show Q (Option.isNone (failedOf c)) _;rw[ef];show this
 by_cases q:b-k<=d
 ·rw[if_pos q]
  show wpS_bind (uj f e.extract e.extract () () v x kf kl o)
 ·rw[if_neg q]
  show wpS_bind (uk f e.extract e.extract () () v x kf kl o)
end
structure cF(lo hi:4)(st st':SortSt):Prop where
 kind:kindOf st'=kindOf st
 failed:failedOf st'=failedOf st
 pend:pendingOf st'=pendingOf st
 perm:(arrOf st').Perm (arrOf st)
 out:∀j,j<lo\/hi<=j->(arrOf st')[j]?=(arrOf st)[j]?
def cF.refl(lo hi:4)(st:SortSt):cF lo hi st st:={9,9,9,Ly _,λ_ _=>rfl}
def cF.size{lo hi:4}{st a:SortSt}(h:cF lo hi st a):(arrOf a).size=(arrOf st).size:=h.perm.size_eq
def cF.trans{lo hi:4}{st b a:SortSt}(h:cF lo hi st b)(g:cF lo hi b a):cF lo hi st a:=
 {g.kind.trans h.kind,g.failed.trans h.failed,g.pend.trans h.pend,g.perm.trans h.perm,λj e=>(g.out j e).trans (h.out j e)}
def cF.arr{lo hi:4}{st:SortSt}(hp:ys.Perm (arrOf st))(a:∀j,j<lo\/hi<=j->ys[j]?=(arrOf st)[j]?):cF lo hi st (setArr st ys):=
 ⟨9,9,9,hp,a⟩
def IntKeys.perm(h:IntKeys xs)(p:ys.Perm xs):IntKeys ys:=
 λq a=>h q ((NM.mp p).mem_iff.mp a)
section
variable {prog:IY} {w:Je} {A:Jq} {E:n5->pe->Prop} {s:pe}
def j9{st:SortSt}(e:kindOf st=oneType')(a:IntKeys (arrOf st))(hi:i<(arrOf st).size)(d:j<(arrOf st).size)
  (h:Q (!(decide (K (arrOf st) i<K (arrOf st) j))) st):wpS (model prog w) A E s (ltAt' i j) Q st:=by
 let(t,p,b):=a.at hi;let(u,q,c):=a.at d;show wpS_ltAt e b c h
def Bz{st:SortSt}(h:Q Jr (setArr st (bubble (arrOf st) i (i-j)))):wpS (model prog w) A E s (moveDown' i j) Q st:=by
 rw[moveDown'_eq];show wpS_modify h
def zo{st:SortSt}{lo n ok:4}(M:kindOf st=oneType')(D:IntKeys (arrOf st))(hn:lo+n<=(arrOf st).size)(U:ok<=n)
  (hs:ba (arrOf st) lo (lo+ok)) (h:∀a,cF lo (lo+n) st a->ba (arrOf a) lo (lo+n)->Q 6 a):
  wpS (model prog w) A E s (binarySort' lo n ok) Q st:=by
 show wpS_bind (wpS_mono (wpS_forRange (I:=λk c a=>c=(8,Jr)/\cF lo (lo+n) st a/\ba (arrOf a) lo (lo+min k n))
  (Q:=λc a=>c=(8,Jr)/\cF lo (lo+n) st a/\ba (arrOf a) lo (lo+n)) ?step ?fin ?init) ?post)
 case post=>
  rintro c a ⟨rfl,p,e⟩;show wpS_pure (h a p e)
 case init=>
  show {9,cF.refl _ _ _,λi j hi v B=>?_}
  by_cases t:ok=0
  ·have:i=j:=()
   subst this;show JZ _
  ·show hs i j hi v ()
 case fin=>
  rintro c a ⟨hc,p,e⟩;show {hc,p,?_}
  rwa [show min (max (max ok 1) n) n=n by omega]at e
 case step=>
  rintro k c a H N ⟨rfl,p,e⟩;rw[show min k n=k by omega]at e;have hz:=p.size;have y:=D.perm p.perm;show wpS_bind (wpS_mono (wpS_forRange (I:=λx c b=>b=a/\∃l r,c=(8,l,r)/\l<=r/\r<=k/\r-l<=k-x /\
    (∀i,lo<=i->i<lo+l->K (arrOf a) i<=K (arrOf a) (lo+k))/\(∀i,lo+r<=i->i<lo+k->K (arrOf a) (lo+k)<K (arrOf a) i))
   (Q:=λc b=>b=a/\∃l r,c=(8,l,r)/\l<=k /\
    (∀i,lo<=i->i<lo+l->K (arrOf a) i<=K (arrOf a) (lo+k))/\(∀i,lo+l<=i->i<lo+k->K (arrOf a) (lo+k)<K (arrOf a) i)) ?istep ?ifin ?iinit) ?ipost)
  case iinit=>show {9,0,k,9,(),(),(),λi hi B=>(),λi t z=>()}
  case ifin=>
   rintro c b ⟨rfl,l,r,rfl,C,q,T,o,f⟩;have:l=r:=()
   subst this;show ⟨9,l,l,9,q,o,f⟩
  case istep=>
   rintro x c b _ ab ⟨rfl,l,r,rfl,C,q,T,o,f⟩;dsimp only
   by_cases u:l>=r
   ·rw[if_pos u]
    have:l=r:=()
    subst this;show wpS_pure ⟨9,l,l,9,q,o,f⟩
   ·rw[if_neg u]
    show wpS_bind (j9 (p.kind.trans M) y () () ?_)
    by_cases d:K (arrOf b) (lo+k)<K (arrOf b) (lo+(l+r)/2)
    ·simp only[d,decide_true,if_true]
     show wpS_pure {9,l,(l+r)/2,9,(),(),(),o,λi t z=>?_};show Int.lt_of_lt_of_le d (e _ _ () t z)
    ·simp only[d,decide_false,xN,if_false]
     show wpS_pure {9,(l+r)/2+1,r,9,(),(),(),λi t z=>?_,f};show LS (e i (lo+(l+r)/2) t () ()) (Int.not_lt.mp d)
  case ipost=>
   rintro c b ⟨rfl,l,r,rfl,O,o,f⟩;dsimp only;show wpS_bind (Bz (wpS_pure {9,p.trans (cF.arr (bubble_perm _ _ _) ?_),?_}))
   ·intro j B
    rw[getElem?_bubble () _ (),if_neg (),if_neg ()]
   ·rw[show min (k+1) n=k+1 by omega]
    intro i j hi v B;show K (bubble (arrOf b) (lo+k) (lo+k-(lo+l))) i<=K (bubble (arrOf b) (lo+k) (lo+k-(lo+l))) j;rw[K_bubble () (),K_bubble () (),show lo+k-(lo+k-(lo+l))=lo+l by omega]
    repeat' split
    all_goals first
     | (exfalso;omega)
     | show JZ _
     | show o _ () ()
     | show OC (f _ () ())
     | show e _ _ () () ()
end
def um(xs:Array Keyed)(lo hi:4):Prop:=∀i j,lo<=i->i<=j->j<hi->K xs j<=K xs i
def cF.mirror{lo hi i j:4}{st:SortSt}(b:lo<=i)(e:j<=hi)(a:j<=(arrOf st).size):
  cF lo hi st (setArr st (mirror (arrOf st) i j ((j-i)/2))):=
 cF.arr (mirror_perm _ _ _ _) λk n=>by rw[getElem?_mirror_all a,if_neg ()]
def um.mirror{st:SortSt}{lo x:4}(b:um (arrOf st) lo (lo+x))(a:lo+x<=(arrOf st).size):
  ba (arrOf (setArr st (mirror (arrOf st) lo (lo+x) ((lo+x-lo)/2)))) lo (lo+x):=by
 intro i j i1 e n;show K (Pk (arrOf st) _ _ _) i<=K (Pk (arrOf st) _ _ _) j;rw[K_mirror a,K_mirror a,if_pos (),if_pos ()];show b _ _ () () ()
section
variable {prog:IY} {w:Je} {A:Jq} {E:n5->pe->Prop} {s:pe}
def zp{st:SortSt}{lo a:4}(hk:kindOf st=oneType')(h0:IntKeys (arrOf st))(hn:lo+a<=(arrOf st).size)(h1:1<=a)
  (h:∀m b,cF lo (lo+a) st b->1<=m->m<=a->ba (arrOf b) lo (lo+m)->Q (!m) b):
  wpS (model prog w) A E s (countRun' lo a) Q st:=by
 show wpS_bind (wpS_mono (wpS_forRange (I:=λx c b=>b=st/\c=(8,x)/\ba (arrOf st) lo (lo+x))
  (Q:=λc b=>b=st/\∃n,c=(8,n)/\1<=n/\n<=a/\ba (arrOf st) lo (lo+n)/\(n=a\/K (arrOf st) (lo+n)<K (arrOf st) (lo+n-1))) ?step ?fin ?init) ?post)
 case init=>show ⟨9,9,λi j _ q hj=>by have:i=j:=();subst this;show JZ _⟩
 case fin=>
  rintro c b ⟨rfl,rfl,M⟩;rw[show max 1 a=a by omega]at M ⊢;show {9,a,9,h1,oN _,M,.inl 9}
 case step=>
  rintro x c b a4 bn ⟨rfl,rfl,M⟩;dsimp only;show wpS_bind (j9 hk h0 () () ?_)
  by_cases e:K (arrOf b) (lo+x)<K (arrOf b) (lo+x-1)
  ·simp only[e,decide_true,if_true]
   show wpS_pure {9,x,9,a4,(),M,.inr e}
  ·simp only[e,decide_false,xN,if_false]
   show wpS_pure {9,9,?_};show ba.join (mid:=lo+x) M (λi j _ _ _=>?_) λ_ _=>Int.not_lt.mp e;have:i=j:=()
   subst this;show JZ _
 case post=>
  rintro c b ⟨rfl,n,rfl,a7,a8,hs,bm⟩;dsimp only
  by_cases aA:n=a
  ·rw[if_pos (by simpa using aA)]
   show wpS_pure (h n _ (cF.refl _ _ _) a7 a8 hs)
  rw[if_neg (by simpa using aA)];have a6:=bm.resolve_left aA
  by_cases a5:n>1
  rw[if_pos a5];show wpS_bind (j9 hk h0 () () ?_)
  by_cases H:K (arrOf b) lo<K (arrOf b) (lo+n-1)
  ·simp only[H,decide_true,if_true]
   show wpS_pure (h n _ (cF.refl _ _ _) a7 a8 hs)
  simp only[H,decide_false,xN,if_false];have p:∀k,lo<=k->k<lo+n->K (arrOf b) k=K (arrOf b) (lo+n-1):=by
   intro k k1 k2;have a1:=hs lo k (oN _) k1 k2;have a2:=hs k (lo+n-1) k1 () ();omega
  show wpS_bind (wpS_reverse ?_);have an:cF lo (lo+a) b (setArr b (mirror (arrOf b) lo (lo+n) ((lo+n-lo)/2))):=cF.mirror (oN _) () ();have ap:um (arrOf (setArr b (mirror (arrOf b) lo (lo+n) ((lo+n-lo)/2)))) lo (lo+(n+1)):=by
   intro i j i1 q hj;show K (mirror (arrOf b) _ _ _) j<=K (mirror (arrOf b) _ _ _) i;rw[K_mirror_equal () p,K_mirror_equal () p]
   by_cases bd:j<lo+n
   ·rw[p i i1 (),p j () bd];show JZ _
   ·have D:j=lo+n:=()
    subst D
    by_cases v:i=lo+n
    ·subst v;show JZ _
    ·rw[p i i1 ()];show OC a6
  generalize setArr b (mirror (arrOf b) lo (lo+n) ((lo+n-lo)/2))=b1 at an ap ⊢
  rotate_left
  rw[if_neg a5];have an:cF lo (lo+a) b b:=cF.refl _ _ _;have ap:um (arrOf b) lo (lo+(n+1)):=by
   intro i j i1 q hj
   by_cases v:i=j
   ·subst v;show JZ _
   ·have e1:i=lo+n-1:=()
    have e2:j=lo+n:=()
    subst e1;subst e2;show OC a6
  all_goals
   show wpS_bind (wpS_lift (KU {9,?_}));show wpS_bind (wpS_mono (wpS_forRange
    (I:=λx c d=>∃f,c=(8,x,f)/\cF lo (lo+a) b d/\um (arrOf d) lo (lo+x)/\f+1<=x /\
     (∀i,lo+x-(f+1)<=i->i<lo+x->K (arrOf d) i=K (arrOf d) (lo+x-1)))
    (Q:=λc d=>∃x f,c=(8,x,f)/\cF lo (lo+a) b d/\um (arrOf d) lo (lo+x)/\1<=x/\x<=a/\f+1<=x /\
     (∀i,lo+x-(f+1)<=i->i<lo+x->K (arrOf d) i=K (arrOf d) (lo+x-1))) ?dstep ?dfin ?dinit) ?dpost)
   case dinit=>show ⟨0,9,an,ap,(),λi i1 i2=>by congr 1;omega⟩
   case dfin=>
    rintro c d ⟨f,rfl,l,o,hq,T⟩;rw[show max (n+1) a=a by omega]at o hq T ⊢;show {a,f,9,l,o,h1,oN _,hq,T}
   case dstep=>
    rintro x c d a4 bn ⟨f,rfl,l,o,hq,T⟩;dsimp only;have hz:=l.size;have a3:=h0.perm l.perm;show wpS_bind (j9 (l.kind.trans hk) a3 () () ?_)
    by_cases e:K (arrOf d) (lo+x)<K (arrOf d) (lo+x-1)
    ·simp only[e,decide_true,if_true]
     have N:∀ys:Array Keyed,(∀k,K ys k=K (arrOf d) k)->um ys lo (lo+(x+1)):=by
      intro ys hy i j i1 q hj;rw[hy,hy]
      by_cases as:j<lo+x
      ·show o i j i1 q as
      ·have D:j=lo+x:=()
       subst D
       by_cases v:i=lo+x
       ·subst v;show JZ _
       ·have:=o i (lo+x-1) i1 () ();omega
     by_cases t:f>0
     ·rw[if_pos t]
      show wpS_bind (wpS_reverse (wpS_pure ⟨0,9,l.trans (cF.mirror () () ()),N _ (K_mirror_equal () T),(),λi i1 i2=>by congr 1;omega⟩))
     ·rw[if_neg t]
      show wpS_pure ⟨0,9,l,N _ (λ_=>rfl),(),λi i1 i2=>by congr 1;omega⟩
    ·simp only[e,decide_false,xN,if_false]
     show wpS_bind (j9 (l.kind.trans hk) a3 () () ?_)
     by_cases r:K (arrOf d) (lo+x-1)<K (arrOf d) (lo+x)
     ·simp only[r,decide_true,if_true]
      show wpS_pure {x,f,9,l,o,(),(),hq,T}
     ·simp only[r,decide_false,xN,if_false]
      have ab:K (arrOf d) (lo+x)=K (arrOf d) (lo+x-1):=()
      show wpS_pure {f+1,9,l,λi j i1 q hj=>?_,(),λi i1 i2=>?_}
      ·by_cases as:j<lo+x
       ·show o i j i1 q as
       ·have D:j=lo+x:=()
        subst D
        by_cases v:i=lo+x
        ·subst v;show JZ _
        ·rw[ab];show o i (lo+x-1) i1 () ()
      ·rw[show lo+(x+1)-1=lo+x by omega]
       by_cases bc:i=lo+x
       ·subst bc;rfl
       ·rw[ab];show T i () ()
   case dpost=>
    rintro c d ⟨x,f,rfl,l,o,bt,bA,hq,T⟩;dsimp only;have hz:=l.size
    by_cases t:f>0
    rw[if_pos t];show wpS_bind (wpS_reverse ?_);have C:cF lo (lo+a) b (setArr d (mirror (arrOf d) (lo+x-(f+1)) (lo+x) ((lo+x-(lo+x-(f+1)))/2))):=
     l.trans (cF.mirror () () ())
    have O:um (arrOf (setArr d (mirror (arrOf d) (lo+x-(f+1)) (lo+x) ((lo+x-(lo+x-(f+1)))/2)))) lo (lo+x):=by
     intro i j i1 q hj;show K (mirror (arrOf d) _ _ _) j<=K (mirror (arrOf d) _ _ _) i;rw[K_mirror_equal () T,K_mirror_equal () T];show o i j i1 q hj
    generalize setArr d (mirror (arrOf d) (lo+x-(f+1)) (lo+x) ((lo+x-(lo+x-(f+1)))/2))=a0 at C O ⊢
    rotate_left
    rw[if_neg t];have C:=l;have O:=o;generalize d=a0 at C O ⊢
    all_goals
     have b0:=C.size;show wpS_bind (wpS_reverse ?_);have B:=C.trans (cF.mirror (hi:=lo+a) (i:=lo) (j:=lo+x) (oN _) () ());have bb:=B.size;have ac:=h0.perm B.perm;have aC:=O.mirror ()
     revert B aC bb ac
     generalize setArr a0 (mirror (arrOf a0) lo (lo+x) ((lo+x-lo)/2))=U;intro B bb ac aC;show wpS_bind (wpS_mono (wpS_forRange (I:=λy c u=>u=U/\c=(8,y)/\ba (arrOf U) lo (lo+y))
      (Q:=λc u=>u=U/\∃m,c=(8,m)/\1<=m/\m<=a/\ba (arrOf U) lo (lo+m)) ?astep ?afin ⟨9,9,aC⟩) ?apost)
     case afin=>
      rintro c u ⟨rfl,rfl,z⟩;rw[show max x a=a by omega]at z ⊢;show {9,a,9,h1,oN _,z}
     case apost=>
      rintro c u ⟨rfl,m,rfl,m1,m2,z⟩;show wpS_pure (h m _ B m1 m2 z)
     case astep=>
      rintro y c u bo bT ⟨rfl,rfl,z⟩;dsimp only;show wpS_bind (j9 (B.kind.trans hk) ac () () ?_)
      by_cases e:K (arrOf u) (lo+y)<K (arrOf u) (lo+y-1)
      ·simp only[e,decide_true,if_true]
       show wpS_pure {9,y,9,(),(),z}
      ·simp only[e,decide_false,xN,if_false]
       show wpS_pure {9,9,?_};show ba.join (mid:=lo+y) z (λi j _ _ _=>?_) λ_ _=>Int.not_lt.mp e;have:i=j:=()
       subst this;show JZ _
end
def av(xs:Array Keyed):4->7 (4×4×4)->4->Prop
 | f,[],t=>f=t
 | f,(a,n,_)::l,t=>a=f/\0<n/\ba xs f (f+n)/\av xs (f+n) l t
def ba.congr{lo hi:4}(h:ba xs lo hi)(e:∀j,lo<=j->j<hi->ys[j]?=xs[j]?):ba ys lo hi:=by
 intro i j i1 a b;rw[K_congr (e i i1 ()),K_congr (e j () b)];show h i j i1 a b
def av.le:∀{f:4} {l:7 (4×4×4)} {t:4},av xs f l t->f+l.length<=t
 | f,[],t,h=>by cases h;simp
 | f,(a,n,p)::l,t,h=>by
  have:=av.le h.2.2.2;have b:=h.2.1;rw[vl];omega
def av.congr:∀{f:4} {l:7 (4×4×4)} {t:4},av xs f l t->(∀j,f<=j->j<t->ys[j]?=xs[j]?)->av ys f l t
 | f,[],t,h,e=>h
 | f,(a,n,p)::l,t,h,e=>by
  have q:=av.le h.2.2.2;show {h.1,h.2.1,h.2.2.1.congr λj b i=>e j b (),av.congr h.2.2.2 λj b i=>e j () i}
def av.snoc:∀{f:4} {l:7 (4×4×4)} {t:4},av xs f l t->0<n->ba xs t (t+n)->av xs f (l++[(t,n,q)]) (t+n)
 | f,[],t,h,b,hs=>by cases h;show ⟨9,b,hs,9⟩
 | f,(a,m,p)::l,t,h,b,hs=>⟨h.1,h.2.1,h.2.2.1,av.snoc h.2.2.2 b hs⟩
def av.modify(j:∀t,(g t).1=t.1/\(g t).2.1=t.2.1):
  ∀{f:4} {l:7 (4×4×4)} {t:4} (i:4),av xs f l t->av xs f (l.modify i g) t
 | f,[],t,i,h=>by simpa using h
 | f,(a,n,p)::l,t,0,h=>by
  let(b,e):=j (a,n,p);rw[List.modify_zero_cons];rcases q:g (a,n,p) with ⟨s,u,v⟩;rw[q]at b e;simp only at b e;subst b;subst e;show h
 | f,(a,n,p)::l,t,i+1,h=>by
  rw[List.modify_succ_cons];show {h.1,h.2.1,h.2.2.1,av.modify j i h.2.2.2}
def av.merge:∀{f:4} {l:7 (4×4×4)} {t:4} (i:4),av xs f l t->
  l[i]?=!(b,e,B)->l[i+1]?=!(sb,nb,C)->
  sb=b+e/\0<e/\0<nb/\f<=b/\b+e+nb<=t/\ba xs b (b+e)/\ba xs (b+e) (b+e+nb) /\
  ∀ys:Array Keyed,(∀j,j<b\/b+e+nb<=j->ys[j]?=xs[j]?)->ba ys b (b+e+nb)->av ys f ((l.set i (b,e+nb,B)).eraseIdx (i+1)) t
 | f,[],t,i,h,q,s=>by simp at q
 | f,[x],t,0,h,q,s=>by simp at s
 | f,(a,n,p)::(a2,n2,p2)::l,t,0,h,q,s=>by
  simp only[Oh,Mr,Ql,Pm]at q s;let(9,9,9):=q;let(9,9,9):=s;let(9,z,T,(9,v,U,hc)):=h;show ⟨9,z,v,oN _,by have:=hc.le;omega,T,U,λys u hs=>?_⟩;show ⟨9,(),by rwa [<- Nat.add_assoc],?_⟩;rw[<- Nat.add_assoc];show hc.congr λj y _=>u j (.inr y)
 | f,(a,n,p)::l,t,i+1,h,q,s=>by
  rw[Mr]at q s;let(D,E,H,r4,I,M,O,Q):=av.merge i h.2.2.2 q s;show {D,E,H,(),I,M,O,λys u hs=>?_};rw[P1,N7];show {h.1,h.2.1,h.2.2.1.congr λj y j2=>u j (.inl ()),Q ys u hs}
section
variable {prog:IY} {w:Je} {A:Jq} {E:n5->pe->Prop} {s:pe} {a₀:Array Keyed}
structure om(a₀:Array Keyed)(st:SortSt):Prop where
 kind:kindOf st=oneType'
 failed:failedOf st=8
 perm:(arrOf st).Perm a₀
def lq{st:SortSt}(o:IntKeys a₀)(b:om a₀ st)(hi:i+1<(pendingOf st).size)(B:t<=a₀.size)
  (hc:av (arrOf st) f (pendingOf st).toList t)
  (h:∀a,om a₀ a->av (arrOf a) f (pendingOf a).toList t->(pendingOf a).size+1=(pendingOf st).size->(∀j,t<=j->(arrOf a)[j]?=(arrOf st)[j]?)->Q 6 a):
  wpS (model prog w) A E s (mergeAt' i) Q st:=by
 let((N,D,H),d):∃x,(pendingOf st)[i]?=some x:=⟨_,getElem?_pos _ i ()⟩;let((O,nb,p),e):∃x,(pendingOf st)[i+1]?=some x:=⟨_,getElem?_pos _ (i+1) hi⟩;let(9,q,r,I,M,u,v,y):=hc.merge i (by rw[K7];show d) (by rw[K7];show e);have C:=b.perm.size_eq;show ul b.kind b.failed (o.perm b.perm) d e q r () u v λa k1 k2 k3 l k5 n=>?_;show h a {k1,k2,k3.trans b.perm} ?_ ?_ λj z=>n j (.inr ())
 ·rw[l]
  have:=y (arrOf a) n k5
  simpa using this
 ·rw[l,<- JH,<- JH]
  have c:i+1<(pendingOf st).toList.length:=by simpa using hi
  simp only[Array.toList_eraseIdxIfInBounds,Array.toList_setIfInBounds,List.length_eraseIdx,Kd];rw[if_pos c];omega
def nQ{st:SortSt}(h0:IntKeys a₀)(hB:SBase a₀ st)(h2:2<=a₀.size)
  (h:∀o,(arrOf o).Perm a₀->failedOf o=8->SortedTo (arrOf o) a₀.size->Q Jr o):wpS (model prog w) A E s sortRuns' Q st:=by
 show wpS_bind (wpS_get ?_);dsimp only;have hsz:(arrOf st).size=a₀.size:=hB.size;rw[show ((sortPriv% PySem.Builtin.SortState.a) st).size=a₀.size from hsz];show wpS_bind (wpS_mono (wpS_forRange
  (I:=λx c o=>∃lo,c=(8,lo)/\x<=lo/\lo<=a₀.size/\om a₀ o/\av (arrOf o) 0 (pendingOf o).toList lo)
  (Q:=λc o=>c=(8,a₀.size)/\om a₀ o/\av (arrOf o) 0 (pendingOf o).toList a₀.size) ?step ?fin ?init) ?post)
 case init=>
  show {0,9,(),(),⟨hB.kind,hB.failed,hB.perm⟩,?_};rw[hB.pend];rfl
 case fin=>
  rintro c o ⟨lo,rfl,x1,x2,U,hC⟩;have:lo=a₀.size:=()
  subst this;show ⟨9,U,hC⟩
 case step=>
  rintro x c o _ hx ⟨lo,rfl,x1,x2,U,hC⟩;dsimp only
  by_cases ap:lo>=a₀.size
  ·rw[if_pos ap]
   have:lo=a₀.size:=()
   subst this;show wpS_pure ⟨9,U,hC⟩
  rw[if_neg ap];have hz:=U.perm.size_eq;show wpS_bind (zp U.kind (h0.perm U.perm) () () λm b hM m1 m2 an=>?_);dsimp only;have a1:=hM.size;have f:om a₀ b:={hM.kind.trans U.kind,hM.failed.trans U.failed,hM.perm.trans U.perm};have d:av (arrOf b) 0 (pendingOf b).toList lo:=by
   rw[hM.pend];show hC.congr λj _ j2=>hM.out j (.inl j2)
  generalize (sortPriv% PySem.Builtin.minRun) a₀.size a₀.size 0=mr
  by_cases aA:m<mr
  ·rw[if_pos aA]
   show wpS_bind (wpS_lift (KU {9,?_}));show wpS_bind (zo f.kind (h0.perm f.perm) () () an λB T M=>?_);simp only[L5,xN,if_false];show wpS_bind (wpS_get ?_);have p:om a₀ B:={T.kind.trans f.kind,T.failed.trans f.failed,T.perm.trans f.perm};have D:av (arrOf B) 0 (pendingOf B).toList lo:=by
    rw[T.pend];show d.congr λj _ j2=>T.out j (.inl j2)
   have n1:1<=min (a₀.size-lo) mr:=()
   have n2:lo+min (a₀.size-lo) mr<=a₀.size:=()
   generalize min (a₀.size-lo) mr=C at M n1 n2 ⊢;rcases hb:((sortPriv% PySem.Builtin.SortState.pending) B).back? with _ | ⟨s1,k1,q1⟩
   ·dsimp only
    show wpS_bind (wpS_modify (wpS_pure {lo+C,9,(),n2,⟨p.kind,p.failed,p.perm⟩,?_}));show av (arrOf B) 0 ((pendingOf B).push (lo,C,0)).toList (lo+C);rw[NU];show D.snoc n1 M
   ·dsimp only
    generalize (sortPriv% PySem.Builtin.power) a₀.size (2*s1+k1) (2*s1+k1+k1+C) a₀.size=pw;show wpS_bind (wpS_mono (wpS_forRange
     (I:=λy c a=>c=(8,Jr)/\om a₀ a/\av (arrOf a) 0 (pendingOf a).toList lo/\ba (arrOf a) lo (lo+C))
     (Q:=λc a=>c=(8,Jr)/\om a₀ a/\av (arrOf a) 0 (pendingOf a).toList lo/\ba (arrOf a) lo (lo+C)) ?mstep ?mfin ?minit) ?mpost)
    case minit=>show ⟨9,p,D,M⟩
    case mfin=>show λc a hh=>hh
    case mpost=>
     rintro c a ⟨rfl,n,q,r⟩;dsimp only;show wpS_bind (wpS_modify (wpS_bind (wpS_modify (wpS_pure {lo+C,9,(),n2,⟨n.kind,n.failed,n.perm⟩,?_}))));show av (arrOf a) 0 (((pendingOf a).modify ((pendingOf a).size-1) λx=>(x.1,x.2.1,pw)).push (lo,C,0)).toList (lo+C);rw[NU,Pl];show av.snoc (av.modify (g:=λx=>(x.1,x.2.1,pw)) (λt=>⟨9,9⟩) _ q) n1 r
    case mstep=>
     rintro y c a _ hy ⟨rfl,n,q,r⟩;show wpS_bind (wpS_get ?_)
     by_cases hp:((sortPriv% PySem.Builtin.SortState.pending) a).size>1
     ·rw[if_pos hp]
      let((u,v,N),e):∃z,((sortPriv% PySem.Builtin.SortState.pending) a)[((sortPriv% PySem.Builtin.SortState.pending) a).size-2]?=some z:=
       {_,getElem?_pos _ _ ()}
      rw[e];dsimp only
      by_cases H:N<=pw
      ·rw[if_pos H]
       show wpS_pure ⟨9,n,q,r⟩
      ·rw[if_neg H]
       show wpS_bind (lq h0 n (by show ((sortPriv% PySem.Builtin.SortState.pending) a).size-2+1<((sortPriv% PySem.Builtin.SortState.pending) a).size;omega) x2 q λa2 ac ab _ ho=>?_);simp only[L5,xN,if_false];show wpS_pure {9,ac,ab,r.congr λj j1 _=>ho j j1}
     ·rw[if_neg hp]
      show wpS_pure ⟨9,n,q,r⟩
  ·rw[if_neg aA]
   show wpS_bind (wpS_get ?_);have p:=f;have D:=d;have M:=an;have n1:1<=m:=m1;have n2:lo+m<=a₀.size:=()
   clear hM an f d a1;generalize b=B at p D M ⊢;generalize m=C at M n1 n2 ⊢;rcases hb:((sortPriv% PySem.Builtin.SortState.pending) B).back? with _ | ⟨s1,k1,q1⟩
   ·dsimp only
    show wpS_bind (wpS_modify (wpS_pure {lo+C,9,(),n2,⟨p.kind,p.failed,p.perm⟩,?_}));show av (arrOf B) 0 ((pendingOf B).push (lo,C,0)).toList (lo+C);rw[NU];show D.snoc n1 M
   ·dsimp only
    generalize (sortPriv% PySem.Builtin.power) a₀.size (2*s1+k1) (2*s1+k1+k1+C) a₀.size=pw;show wpS_bind (wpS_mono (wpS_forRange
     (I:=λy c a=>c=(8,Jr)/\om a₀ a/\av (arrOf a) 0 (pendingOf a).toList lo/\ba (arrOf a) lo (lo+C))
     (Q:=λc a=>c=(8,Jr)/\om a₀ a/\av (arrOf a) 0 (pendingOf a).toList lo/\ba (arrOf a) lo (lo+C)) ?mstep ?mfin ?minit) ?mpost)
    case minit=>show ⟨9,p,D,M⟩
    case mfin=>show λc a hh=>hh
    case mpost=>
     rintro c a ⟨rfl,n,q,r⟩;dsimp only;show wpS_bind (wpS_modify (wpS_bind (wpS_modify (wpS_pure {lo+C,9,(),n2,⟨n.kind,n.failed,n.perm⟩,?_}))));show av (arrOf a) 0 (((pendingOf a).modify ((pendingOf a).size-1) λx=>(x.1,x.2.1,pw)).push (lo,C,0)).toList (lo+C);rw[NU,Pl];show av.snoc (av.modify (g:=λx=>(x.1,x.2.1,pw)) (λt=>⟨9,9⟩) _ q) n1 r
    case mstep=>
     rintro y c a _ hy ⟨rfl,n,q,r⟩;show wpS_bind (wpS_get ?_)
     by_cases hp:((sortPriv% PySem.Builtin.SortState.pending) a).size>1
     ·rw[if_pos hp]
      let((u,v,N),e):∃z,((sortPriv% PySem.Builtin.SortState.pending) a)[((sortPriv% PySem.Builtin.SortState.pending) a).size-2]?=some z:=
       {_,getElem?_pos _ _ ()}
      rw[e];dsimp only
      by_cases H:N<=pw
      ·rw[if_pos H]
       show wpS_pure ⟨9,n,q,r⟩
      ·rw[if_neg H]
       show wpS_bind (lq h0 n (by show ((sortPriv% PySem.Builtin.SortState.pending) a).size-2+1<((sortPriv% PySem.Builtin.SortState.pending) a).size;omega) x2 q λa2 ac ab _ ho=>?_);simp only[L5,xN,if_false];show wpS_pure {9,ac,ab,r.congr λj j1 _=>ho j j1}
     ·rw[if_neg hp]
      show wpS_pure ⟨9,n,q,r⟩
 case post=>
  rintro c o ⟨rfl,U,hC⟩;dsimp only;have as:=hC.le;rw[JH]at as;show wpS_bind (wpS_mono (wpS_forRange
   (I:=λx c b=>c=(8,Jr)/\om a₀ b/\av (arrOf b) 0 (pendingOf b).toList a₀.size/\x+(pendingOf b).size<=a₀.size+1)
   (Q:=λc b=>c=(8,Jr)/\om a₀ b/\av (arrOf b) 0 (pendingOf b).toList a₀.size/\(pendingOf b).size<=1) ?step2 ?fin2 ?init2) ?post2)
  case init2=>show {9,U,hC,()}
  case fin2=>
   rintro c b ⟨rfl,f,d,hx⟩;show {9,f,d,()}
  case step2=>
   rintro x c b _ hx ⟨rfl,f,d,a3⟩;show wpS_bind (wpS_get ?_)
   by_cases O:((sortPriv% PySem.Builtin.SortState.pending) b).size<=1
   ·rw[if_pos O]
    show wpS_pure ⟨9,f,d,O⟩
   rw[if_neg O];show wpS_bind (lq h0 f ?_ (oN _) d λB p D a4 _=>?_)
   ·have a0:¬ (pendingOf b).size<=1:=O
    by_cases hp:((sortPriv% PySem.Builtin.SortState.pending) b).size-2>0
    ·rw[if_pos hp]
     split<;>(simp only[pendingOf]at *;omega)
    ·rw[if_neg hp]
     simp only[Option.any_none,xN,if_false];simp only[pendingOf]at *;omega
   ·simp only[L5,xN,if_false]
    show wpS_pure {9,p,D,()}
  case post2=>
   rintro c b ⟨rfl,f,d,hx⟩;show wpS_pure (h b f.perm f.failed ?_);rw[<- JH]at hx
   revert d hx
   generalize (pendingOf b).toList=l;intro d hx
   match l,d,hx with
   | [],d,_=>
    have q5:0=a₀.size:=d;omega
   | [(p1,p2,p3)],d,_=>
    let(9,q2,q3,q4):=d;have q5:0+p2=a₀.size:=q4;intro i j aC hj;show q3 i j () aC ()
   | _::_::_,_,hx=>simp at hx
end
section
variable {prog:IY} {w:Je} {A:Jq} {E:n5->pe->Prop} {s:pe}
def zq{P:Fin->pe->Prop}
  (a:s.heap.get? b=!seqObj "list" us.toArray g) (n:IntsAre us zs) (c:2<=us.length) (y:us.length<=4096)
  (x:∀(o:Array n5) (ys:7 3),IntsAre o.toList ys->ys.Perm zs->ys.Pairwise (· <= ·)->
   P (.done (.ret .none)) { s with heap:=sortedHeap s.heap b us o }):
  wpAny (model prog w) A (Nb.«list.sort» {[.ref b],[]}) P E s:=by
 have t:us.toArray.size<=sizeLine:=by rw[JU];simp;omega
 rw[list_sort_plain];have d:=xE a;show mi
  (listItems_at a 9 ?_)
 show mi
  (listUpdate_at a 9 ?_ t (Jd _))
 let(l,hq1):∃l,(s.heap.update b (JC λ_=>#[])).get? b=
   some (seqObj "list" #[] l):={_,get?_update_seq a _}
 show mi
  (seqEpoch_at hq1 9 ?_)
 show mi
  (O0 ?_)
 show mi
  (N0 ?_)
 show Ki ?_;have f:(((s.heap.update b (JC λ_=>#[])).push
   (seqObj "tuple" us.toArray 0)).push (seqObj "list" #[] 0)).get? b=!(seqObj "list" #[] l):=by
  rw[Heap.get?_push_ne,Heap.get?_push_ne]
  ·show hq1
  ·rw[Oi];show vu d
  ·rw[size_push',Oi]
   show vu (Lm d)
 show wpAny _ A _ P E { s with
  heap:=((s.heap.update b (JC λ_=>#[])).push
   (seqObj "tuple" us.toArray 0)).push (seqObj "list" #[] 0) }
 dsimp only;have q:us.toArray.size=us.length:=by simp
 rw[if_neg (),if_neg ()];let(u,v,r,9):∃u v r,us=u::v::r:=by
  let _||(u,_||(v,r)):=us
  ·simp at c
  ·simp at c
  ·show ⟨u,v,r,9⟩
 rw[keyKind_ints n];show mi
  (ri ?_)
 show mi
  (Jg (nQ (a₀:=pairsOf (u::v::r))
   (st:=SortSt.mk' oneType' (pairsOf (u::v::r)) #[] 07 8)
   (Q:=λ_ z=>(arrOf z).Perm (pairsOf (u::v::r))/\failedOf z=8/\SortedTo (arrOf z) (pairsOf (u::v::r)).size)
   n.intKeys {Ly _,9,9,9} (by rw[pairsOf_size];show c) λz h i j=>⟨h,i,j⟩) ?_ λ_ _ e=>e)
 rintro ⟨⟨⟩,z⟩ s' ⟨rfl,h,i,j⟩;dsimp only;show mi
  (seqEpoch_at f 9 ?_)
 have p:((arrOf z).map (·.2)).size<=sizeLine+1:=by
  rw[Array.size_map,h.size_eq,pairsOf_size,JU];omega
 show mi
  (listUpdate_at f 9 ?_ (Jd _) p)
 rw[i];simp only[bne_self_eq_false,xN,if_false];let(ys,B,C,D):=sorted_out n h j;show ri (x _ ys B C D)
def uo
  (j:s.heap.IsList b us.toArray) (i:IntsAre us zs) (c:2<=us.length) (a:us.length<=4096)
  (h:∀(o:Array n5) (ys:7 3),IntsAre o.toList ys->ys.Perm zs->ys.Pairwise (· <= ·)->
   Q (.ref (↑s+1)) { s with heap:=sortedAll s.heap us o }):
  wpAny (model prog w) A (call (.builtin "sorted") [.ref b]) Q E s:=by
 have d:us.length<=sizeLine:=by rw[JU];omega
 show Calls.call_function_entry kind_sorted
  plain_sorted entry_sorted (args_sorted1 _) ?_
 unfold Nb.«sorted»;show mi
  (m:=checkCount "sorted" 1 1 _) (ri ?_)
 show mi
  (collect_list j ?_ d)
 show mi
  (N0 ?_)
 have f:((s.heap.push (seqObj "list" #[] 0)).update
   ↑s (JC (·++us.toArray))).objs.size=↑s+1:=by
  rw[Oi,size_push']
 have e:(((s.heap.push (seqObj "list" #[] 0)).update
   ↑s (JC (·++us.toArray))).push
   (seqObj "list" us.toArray 0)).get? (↑s+1)=!seqObj "list" us.toArray 0:=by
  rw[<- f];show y8 _ 9
 show wpAny _ _ _ _ _ { s with
  heap:=((s.heap.push (seqObj "list" #[] 0)).update
   ↑s (JC (·++us.toArray))).push (seqObj "list" us.toArray 0) }
 rw[f];show mi (Ki
  (Oj slot_list_sort {_,e,9} entry_list_sort
   (zq e i c a λo ys l n p=>{_,9,?_}) (args_list_sort _)))
 show ri {_,9,h o ys l n p}
end
end PyProof.Rows
namespace L2
open PySem PySem.Spec PyProof.Rows
section
variable {X:Cx}
def vB{w:Je}
  (e:s.heap.IsList b us.toArray) (d:IntsAre us zs) (a:us.length<=4096)
  (c:∀(o:Array n5) (ys:7 3),IntsAre o.toList ys->ys.Perm zs->ys.Pairwise (· <= ·)->
   Q (.ref (↑s+1)) { s with heap:=sortedAll s.heap us o }):
  wpAny (model prog w) A (call (.builtin "sorted") [.ref b]) Q E s:=by
 by_cases h:us.length<64
 ·show sorted_ints e d h c
 ·show uo e d () a c
def sI:bq X (.builtin "sorted") (λxs H Q=>∃(p:mu) (ns:7 3),xs=[.ref p]/\ak X.K H p (ns.map V.int)/\ns.length<=4096 /\
  ∀(l:mu) (c:7 3),H l=8->c.Perm ns->c.Pairwise (· <= ·)->Q (.ref l) (upd H l (.lst (c.map V.int)))):=by
 intro i s σ H xs us Q I r h;let(p,ns,9,y,C,q):=h;let(u,9,A):=gj r;cases A;let(its,j,pl,_):=I.list y;have v:=gU j;have B:its.length=ns.length:=by rw[<- j.length,lj]
 show vB pl.isList v () λout c n f t=>?_;let(e,x):=sortedAll_at s.heap its out;have d:c.length=ns.length:=f.length_eq;show {.ref (↑s+1),_,I.laid (t':=s.toks) (a:=↑s+1) (o:=.lst (c.map V.int)) (λb D z=>sortedAll_old z) (Lc _) ?_,9,q _ c (I.hok.fresh (Lc _)) f t};show ⟨by rw[lj,d,JU];omega,out.toList,e,mH n,?_⟩;show x
end
def zr:vx 199:=λa c b _ h=>nQ a c b h
inductive qZ(K:PySem.W.Frag)(xs:7 V)(H:Hp)(Q:VK):Prop
 | mk (p:mu) (ns:7 3):xs=[.ref p]->ak K H p (ns.map V.int)->ns.length<200->(∀(l:mu) (ns':7 3),H l=8->ns'.Perm ns->ns'.Pairwise (· <= ·)->Q (.ref l) (upd H l (.lst (ns'.map V.int))))->qZ K xs H Q
def ql{X:Cx}{K:PySem.W.Frag}(d:X.K=K):bq X (.builtin "sorted") (qZ K):=by
 subst d;intro a s σ H xs us Q I r h;let(p,ns,b,c,e,q):=h;show sI a s σ H xs us Q I r {p,ns,b,c,(),q}
section
variable {X:Cx}
def lr(ns:7 3):7 3:=ns.foldl step_dedup []
def qo(ns:7 3):firstMet (λi=>ns.getD i 0) ns.length=lr ns:=by
 unfold firstMet lr;congr 1
 apply List.ext_getElem
 ·simp
 ·intro i a b
  simp at a;simp[a]
inductive Hs  (xs:7 V) (H:Hp) (Q:VK):Prop
 | mk (p:mu) (ns:List Int):xs=[.ref p]->H p=some (.lst (ns.map V.int))->ns.length<4000->(∀l,H l=none->Q (.ref l) (upd H l (.set (λk=>(lr ns).any (·==k)) (lr ns).length)))->Hs  xs H Q
def zu(hc:X.calm=6):bq X (.type "set") Hs:=by
 intro f s σ H xs us Q I r h;let(p,ns,9,v,A,q):=h;let(u,9,y):=gj r;cases y;let(x,its,n,i,l):=(show aS X.prog X.w H s.heap p (.lst (ns.map V.int)) from I.hok p _ v);have j:=gU i;have d:its.length=ns.length:=by rw[<- i.length,lj]
 show call_set_list (I.ok.hd hc) (items:=its.toArray) {_,l,9,n,9} (by simpa using j) (by rw[y9,d];unfold scanBound;omega) λh' z c t=>?_;have a:its.toArray.size=ns.length:=by rw[y9,d]
 rw[a,qo]at c;show {.ref ↑s,_,I.laid (t':=z) (o:=.set (λk=>(lr ns).any (·==k)) (lr ns).length) (λb o e=>t b o (xE e) e) (oN _) c,9,q _ (I.hok.fresh (oN _))}
def zw:bq X (.builtin "len") (λxs H Q=>∃(p:mu) (S:3->Bool) (n:4),xs=[.ref p]/\H p=!.set S n/\n<4096/\Q (.int n) H):=by
 intro b s σ H xs us Q I r h;let(p,S,n,9,j,y,q):=h;let(u,9,l):=gj r;cases l;have c:s.heap.SetOf (intKind X.prog X.w) p S n:=(show aS X.prog X.w H s.heap p (.set S n) from I.hok p _ j);let(o,i,a):=c.objOf;let(hex,x,v,t,d,_,_,f,e):=a;subst f;show call_len_set i hex d e () {.int _,H,I.tok _,{_,9},q}
def mY:∀(ns b:7 3),(ns.foldl step_dedup b).length<=b.length+ns.length /\
  ((ns.foldl step_dedup b).length=b.length+ns.length↔(ns.Nodup/\∀x∈ns,x∉b))
 | [],b=>by simp
 | a::r,b=>by
  rw[OI]
  by_cases h:a∈b
  ·have e:step_dedup b a=b:=by unfold step_dedup;rw[if_pos (by simpa using h)]
   rw[e];let(f,_):=mY r b;show ⟨by rw[vl];omega,⟨λz=>by rw[vl]at z;omega,λz=>absurd h (z.2 a vr)⟩⟩
  ·have e:step_dedup b a=b++[a]:=by unfold step_dedup;rw[if_neg (by simpa using h)]
   rw[e];let(f,i):=mY r (b++[a]);rw[sB,KS]at f i;rw[vl];show {(),?_};rw[show b.length+(r.length+1)=b.length+1+r.length by omega,i,Ls]
   constructor
   ·rintro ⟨d,c⟩
    show {{λz=>c a z (by simp),d},λx hx=>?_};let 9||hx:=Jb.mp hx
    ·show h
    ·show λz=>c x hx (JD _ z)
   ·rintro ⟨⟨d,c⟩,j⟩
    show {c,λx hx z=>?_};let z||z:=Jc.mp z
    ·show j x (wh _ hx) z
    ·rw[Jj]at z
     subst z;show d hx
def BA(ns:7 3):(lr ns).length<=ns.length/\((lr ns).length=ns.length↔ns.Nodup):=by
 let(a,b):=mY ns [];unfold lr;simp only[Jo,LQ,Lf,not_false_eq_true,implies_true,and_true]at a b;show ⟨a,b⟩
end
end L2
namespace Gp
def Od(T:7 3)(a b:4):Prop:=a<b/\T.getD a 0<T.getD b 0/\∃k,b<k/\k<T.length/\T.getD k 0<T.getD a 0
def lu(nb:7 (7 4))(a b:4):Prop:=b∈nb.getD a []
inductive db(nb:7 (7 4)):4->4->Prop
 | refl (a:4):db nb a a
 | step {a b c:4}:db nb a b->lu nb b c->db nb a c
def db.trans(h:db nb a b)(k:db nb b c):db nb a c:=by
 induction k with
 | refl=>show h
 | step _ e i=>show .step i e
def db.one(h:lu nb a b):db nb a b:=.step (.refl _) h
def db.symm(s:∀a b,lu nb a b->lu nb b a)(h:db nb a b):db nb b a:=by
 induction h with
 | refl=>show .refl _
 | step _ e i=>show (db.one (s _ _ e)).trans i
def db.mono(m:∀a b,lu nb a b->lu i a b)(h:db nb a b):db i a b:=by
 induction h with
 | refl=>show .refl _
 | step _ e j=>show .step j (m _ _ e)
def put(nb:7 (7 4))(i x:4):7 (7 4):=nb.set i (nb.getD i []++[x])
def qp(nb:7 (7 4))(p o:4):7 (7 4):=put (put nb p o) o p
def ka(nb:7 (7 4))(i x:4):(put nb i x).length=nb.length:=Kd
def oP(h:i<nb.length)(x a:4):(put nb i x).getD a []=if a=i then nb.getD i []++[x] else nb.getD a []:=Sh.jk h
def w9(h:i<nb.length):lu (put nb i x) a b↔lu nb a b\/(a=i/\b=x):=by
 unfold lu;rw[oP h]
 by_cases c:a=i
 ·subst c;rw[if_pos 9,Jc,Jj];simp
 ·rw[if_neg c];simp[c]
def sJ(hp:p<nb.length)(c:o<nb.length):lu (qp nb p o) a b↔lu nb a b\/(a=p/\b=o)\/(a=o/\b=p):=by
 unfold qp;rw[w9 (by rw[ka];show c),w9 hp,or_assoc]
structure Gr(T:7 3)(nb:7 (7 4)):Prop where
 len:nb.length=T.length
 sym:∀a b,lu nb a b->lu nb b a
 od:∀a b,lu nb a b->Od T (min a b) (max a b)
def Gr.add(h:Gr T nb)(n:o<T.length)(e:Od T p o):Gr T (qp nb p o):=by
 have i:=h.len;have j:=e.1;show ⟨by unfold qp;rw[ka,ka];show i,λa b z=>?_,λa b z=>?_⟩
 ·rw[sJ () ()]at z ⊢
  let z||(9,9)||(9,9):=z
  ·show .inl (h.sym _ _ z)
  ·show .inr (.inr ⟨9,9⟩)
  ·show .inr (.inl ⟨9,9⟩)
 ·rw[sJ () ()]at z
  let z||(9,9)||(9,9):=z
  ·show h.od _ _ z
  ·rw[Mp (),Oc ()];show e
  ·rw[LO (),OJ ()];show e
def gr(T:7 3)(a b:4):4:=if T.getD a 0>T.getD b 0 then a else b
def xb(T:7 3)(a b:4):gr T a b=a\/gr T a b=b:=by unfold gr;split<;>simp
def FG(T:7 3)(a b:4):T.getD a 0<=T.getD (gr T a b) 0:=by unfold gr;split<;>omega
def Ht(T:7 3)(a b:4):T.getD b 0<=T.getD (gr T a b) 0:=by unfold gr;split<;>omega
def leave(T:7 3)(a:4):7 (4×4)->7 (7 4)->4->Option (7 (7 4)×7 (4×4))
 | [],_,_=>8
 | x::r,nb,g=>if a<x.1 then leave T a r (qp nb a x.2) (gr T g x.2) else some (nb,if gr T g x.2=a then r else (x.1,gr T g x.2)::r)
structure By(T:7 3)(ord:7 4):Prop where
 o:Sh.qR ord T.length
 lt:∀p q,p<T.length->q<T.length->(T.getD p 0<T.getD q 0↔ord.idxOf p<ord.idxOf q)
structure J(T:7 3)(ord:7 4)(i g:4)(rp:7 (4×4))(nb:7 (7 4)):Prop where
 gra:Gr T nb
 dec:rp.Pairwise λx y=>y.1<x.1
 pr:∀x∈rp,x.1<=x.2/\x.2<i/\g<=ord.idxOf x.2/\∀y∈rp,y.1<=x.2->y.1<=x.1
 hom:∀p,p<i->g<=ord.idxOf p->∃x∈rp,x.1<=p/\(∀y∈rp,y.1<=p->y.1<=x.1)/\T.getD p 0<=T.getD x.2 0/\db nb p x.2
 com:∀a b,Od T a b->ord.idxOf a<g->db nb a b
 fin:∀p q,p<q->q<i->g<=ord.idxOf p->ord.idxOf p<ord.idxOf q->∃k,q<k/\k<T.length/\ord.idxOf k<ord.idxOf p
 gon:∀p,p<T.length->ord.idxOf p<g->p<i
 bnd:∃e,(∀a,(nb.getD a []).length<=2*e)/\e+rp.length<=i
def J.start:J T ord 0 0 [] (ra T.length []):=by
 have e:∀a,(ra T.length ([]:7 4)).getD a []=[]:=λa=>by
  rw[oa,JV]
  split<;>rfl
 have n:∀a b,¬ lu (ra T.length []) a b:=λa b h=>by unfold lu at h;rw[e]at h;cases h
 show ⟨{zg,λa b h=>(n _ _ h).elim,λa b h=>(n _ _ h).elim},.nil,λx h=>(by cases h),λp h=>(),λa b _ h=>(),λp q _ h=>(),λp _ h=>(),⟨0,λa=>(by rw[e];show oN _),oN _⟩⟩
def J.come(B:By T ord)(j:J T ord i g rp nb)(hi:i<T.length)(st:∀p,ord[g]?=!p->i<=p):J T ord (i+1) g ((i,i)::rp) nb:=by
 have D:g<=ord.idxOf i:=by
  let z||z:=LH (ord.idxOf i) g
  ·have:=j.gon i hi z;omega
  ·show z
 show {j.gra,?_,λx hx=>?_,λp hp C=>?_,j.com,λp q I hq C a=>?_,λp hp a=>Lm (j.gon p hp a),?_}
 ·rw[JJ]
  show ⟨λy hy=>by have:=j.pr y hy;show y.1<i;omega,j.dec⟩
 ·let 9||hx:=Jb.mp hx
  ·show {oN _,JG _,D,λy _ h=>h}
  ·let(b,t,u,v):=j.pr x hx
   show {b,(),u,λy hy a=>?_};let 9||hy:=Jb.mp hy
   ·have:i<=x.2:=a
    omega
   ·show v y hy a
 ·by_cases H:p=i
  ·subst H
   show {(p,p),vr,oN _,λy _ h=>h,JZ _,.refl _}
  ·let(x,hx,b,t,u,v):=j.hom p () C
   show {x,wh _ hx,b,λy hy a=>?_,u,v};let 9||hy:=Jb.mp hy
   ·have:i<=p:=a
    omega
   ·show t y hy a
 ·by_cases M:q=i
  ·subst M
   have n:p<T.length:=()
   have U:=(op.mp (B.o.at_ n)).1;have E:g<ord.length:=()
   have s:ord[g]?=!ord[g]:=li E;have hk:=st _ s;have O:=B.o.idx s;have Q:=B.o.lt s;show {ord[g],?_,Q,?_}
   ·let z||z:=LH q ord[g]
    ·show z
    ·have hz:ord[g]=q:=()
     rw[hz]at O;omega
   ·rw[O]
    let z||z:=LH g (ord.idxOf p)
    ·show z
    ·have:=B.o.inj Q n ()
     omega
  ·show j.fin p q I () C a
 ·let(e,b,t):=j.bnd
  show ⟨e,b,by rw[vl];omega⟩
section
variable {T:7 3} {ord:7 4} {i g place:4} {rp0:7 (4×4)} {nb0:7 (7 4)}
structure L(T:7 3)(place:4)(rp0 xs rest:7 (4×4))(nb0 nb:7 (7 4))(gm e:4):Prop where
 split:rp0=xs++rest
 gra:Gr T nb
 mono:∀a b,lu nb0 a b->lu nb a b
 edge:∀x∈xs,place<x.1/\lu nb place x.2
 gmem:gm=place\/∃x∈xs,gm=x.2
 gmax:T.getD place 0<=T.getD gm 0/\∀x∈xs,T.getD x.2 0<=T.getD gm 0
 bnd:∀a,(nb.getD a []).length<=2*(e+xs.length)
def xK(hp:p<nb.length)(c:o<nb.length)(h:∀a,(nb.getD a []).length<=m)(a:4):((qp nb p o).getD a []).length<=m+2:=by
 unfold qp;rw[oP (by rw[ka];show c)];have b:∀a,((put nb p o).getD a []).length<=m+1:=λa=>by
  rw[oP hp]
  split
  ·rw[sB];have:=h p;simp only[vl,Jo];omega
  ·have:=h a;omega
 split
 ·rw[sB];have:=b o;simp only[vl,Jo];omega
 ·have:=b a;omega
def J.out(B:By T ord)(j:J T ord i g rp0 nb0)(hi:i<=T.length)(hg:ord[g]?=!place)(bb:place<i)(he:e+rp0.length<=i):∀(rest xs:7 (4×4)) (nb:7 (7 4)) (u:4),L T place rp0 xs rest nb0 nb u e->
  ∃bc bt,leave T place rest nb u=!(bc,bt)/\J T ord i (g+1) bt bc:=by
 have ip:=B.o.idx hg;have s:place<T.length:=()
 let(h,hh,cn,cp,ec,cs):=j.hom place bb ();intro rest
 induction rest with
 | nil=>
  intro xs nb u l;exfalso;rw[l.split,Kb]at hh;have:=(l.edge h hh).1;omega
 | cons x r ih=>
  intro xs nb u l;have v:x∈rp0:=by rw[l.split];show xC _ vr
  let(q1,q2,q3,q4):=j.pr x v;unfold leave
  by_cases hx:place<x.1
  ·rw[if_pos hx]
   have I:ord.idxOf place<ord.idxOf x.2:=by
    let z||z:=LH (ord.idxOf place) (ord.idxOf x.2)
    ·show z
    ·have:=B.o.inj s (show x.2<T.length by omega) ()
     omega
   have cv:Od T place x.2:=by
    show {(),(B.lt _ _ s ()).mpr I,?_};let(k,k1,k2,k3):=j.fin place x.2 () q2 () I;show {k,k1,k2,(B.lt _ _ k2 s).mpr k3}
   have n:=l.gra.len;have ad:=λ{a b:Nat}=>sJ (nb:=nb) (p:=place) (o:=x.2) () () (a:=a) (b:=b);show ih (xs++[x]) _ _ ⟨by rw[l.split];simp,l.gra.add () cv,λa b z=>ad.mpr (.inl (l.mono a b z)),λy hy=>?_,?_,{LS l.gmax.1 (FG ..),λy hy=>?_},λa=>?_⟩
   ·let hy||hy:=Jc.mp hy
    ·show {(l.edge y hy).1,ad.mpr (.inl (l.edge y hy).2)}
    ·rw[Jj.mp hy]
     show {hx,ad.mpr (.inr (.inl ⟨9,9⟩))}
   ·let z||z:=xb T u x.2
    ·rw[z]
     let z'||(y,hy,z'):=l.gmem
     ·show .inl z'
     ·show .inr {y,JD _ hy,z'}
    ·show .inr ⟨x,by simp,z⟩
   ·let hy||hy:=Jc.mp hy
    ·show LS (l.gmax.2 y hy) (FG ..)
    ·rw[Jj.mp hy]
     show Ht ..
   ·have:=xK (nb:=nb) (p:=place) (o:=x.2) () () l.bnd a
    rw[sB];simp only[vl,Jo];omega
  ·rw[if_neg hx]
   show {nb,_,9,?_};have U:=j.dec;rw[l.split,JE,JJ]at U;let(_,(dx,dr),dy):=U;have t:∀y,y∈rp0↔y∈xs\/y=x\/y∈r:=λy=>by rw[l.split,Jc,Jb]
   have dd:h=x:=by
    let z||z||z:=(t h).mp hh
    ·have:=(l.edge h z).1;omega
    ·show z
    ·have h1:=dx h z
     have h2:=cp x v ();omega
   subst dd;have sy:=l.gra.sym;have ab:db nb place h.2:=cs.mono l.mono;have cd:db nb place (gr T u h.2):=by
    let z||z:=xb T u h.2
    ·rw[z]
     let 9||(y,hy,9):=l.gmem
     ·show .refl _
     ·show db.one (l.edge y hy).2
    ·rw[z];show ab
   have ac:∀y,y∈xs\/y=h->T.getD y.2 0<=T.getD (gr T u h.2) 0:=λy hy=>by
    let hy||9:=hy
    ·show LS (l.gmax.2 y hy) (FG ..)
    ·show Ht ..
   have ch:gr T u h.2=place\/(h.1<=gr T u h.2/\gr T u h.2<i/\g<=ord.idxOf (gr T u h.2)):=by
    let z||z:=xb T u h.2
    ·rw[z]
     let z'||(y,hy,9):=l.gmem
     ·show .inl z'
     ·let(p1,p2,p3,_):=j.pr y ((t y).mpr (.inl hy))
      have:=(l.edge y hy).1;show .inr {(),p2,p3}
    ·rw[z];show .inr ⟨q1,q2,q3⟩
   have D:∀p,p<i->g<=ord.idxOf p->(∃y,(y∈xs\/y=h)/\h.1<=p/\T.getD p 0<=T.getD y.2 0/\db nb p place)\/∃y∈r,y.1<=p/\(∀z∈rp0,z.1<=p->z.1<=y.1)/\T.getD p 0<=T.getD y.2 0/\db nb p y.2:=λp hp dq=>by
    let(y,hy,H,E,y3,y4):=j.hom p hp dq;have c:=y4.mono l.mono;let z||z||z:=(t y).mp hy
    ·have:=(l.edge y z).1
     show .inl {y,.inl z,(),y3,c.trans (db.one (sy _ _ (l.edge y z).2))}
    ·subst z
     show .inl {y,.inr 9,H,y3,c.trans (ab.symm sy)}
    ·show .inr ⟨y,z,H,E,y3,c⟩
   have other:∀p,p<T.length->g+1<=ord.idxOf p->T.getD place 0<T.getD p 0:=λp hp n=>(B.lt _ _ s hp).mpr ();have ds:∀y∈r,y.2≠place:=λy hy z=>by
    have h1:=dx y hy;have h2:=(j.pr y ((t y).mpr (.inr (.inr hy)))).2.2.2 h v (by rw[z];show cn);omega
   have ap:∀p,p<T.length->p≠place->g<=ord.idxOf p->g+1<=ord.idxOf p:=λp hp I n=>by
    let z||z:=LH g (ord.idxOf p)
    ·show z
    ·show absurd (B.o.inj hp s ()) I
   have bo:∀y∈r,y.1<=y.2/\y.2<i/\g+1<=ord.idxOf y.2/\(∀z∈r,z.1<=y.2->z.1<=y.1)/\¬ h.1<=y.2:=λy hy=>by
    let(p1,p2,p3,p4):=j.pr y ((t y).mpr (.inr (.inr hy)));show {p1,p2,ap _ () (ds y hy) p3,λz hz n=>p4 z ((t z).mpr (.inr (.inr hz))) n,λn=>?_};have:=p4 h v n;have:=dx y hy;omega
   have M:∀a b,Od T a b->ord.idxOf a<g+1->db nb a b:=λa b as n=>by
    by_cases ha:ord.idxOf a<g
    ·show (j.com a b as ha).mono l.mono
    ·let(a1,a2,k,k1,k2,k3):=as
     have ci:a=place:=B.o.inj () s ();subst ci;have eb:=j.gon k k2 (by have:=(B.lt _ _ k2 s).mp k3;omega);have ea:=(B.lt _ _ s (show b<T.length by omega)).mp a2;let(y,_,_,_,c)||(y,hy,H,E,_):=D b () ()
     ·show c.symm sy
     ·have h1:=E h v ()
      have h2:=dx y hy;omega
   have dt:xs.length+(r.length+1)=rp0.length:=by rw[l.split,sB,vl]
   have O:∀p q,p<q->q<i->g+1<=ord.idxOf p->ord.idxOf p<ord.idxOf q->∃k,q<k/\k<T.length/\ord.idxOf k<ord.idxOf p:=λp q a b c d=>j.fin p q a b () d;have Q:∀p,p<T.length->ord.idxOf p<g+1->p<i:=λp hp n=>by
    by_cases cj:ord.idxOf p<g
    ·show j.gon p hp cj
    ·rw[B.o.inj hp s ()];show bb
   by_cases C:gr T u h.2=place
   ·rw[if_pos C]
    show {l.gra,dr,λy hy=>?_,λp hp n=>?_,M,O,Q,{e+xs.length,l.bnd,()}}
    ·let(p1,p2,p3,p4,_):=bo y hy
     show ⟨p1,p2,p3,p4⟩
    ·let(y,hy,H,E,_)||(y,hy,H,E,y3,y4):=D p hp ()
     ·have h1:=ac y hy
      have h2:=other p () n;rw[C]at h1;omega
     ·show {y,hy,H,λz hz=>E z ((t z).mpr (.inr (.inr hz))),y3,y4}
   ·rw[if_neg C]
    let(g1,g2,g3):=ch.resolve_left C;show ⟨l.gra,?_,λy hy=>?_,λp hp n=>?_,M,O,Q,⟨e+xs.length,l.bnd,by rw[vl];omega⟩⟩
    ·rw[JJ]
     show {λy hy=>dx y hy,dr}
    ·let 9||hy:=Jb.mp hy
     ·show {g1,g2,ap _ () C g3,λz hz n=>?_}
      let 9||hz:=Jb.mp hz
      ·show oN _
      ·show Jh (dx z hz)
     ·let(p1,p2,p3,p4,p5):=bo y hy
      show {p1,p2,p3,λz hz n=>?_};let 9||hz:=Jb.mp hz
      ·show absurd n p5
      ·show p4 z hz n
    ·let(y,hy,H,E,c)||(y,hy,H,E,y3,y4):=D p hp ()
     ·show {_,vr,H,λz hz n=>?_,LS E (ac y hy),c.trans cd}
      let 9||hz:=Jb.mp hz
      ·show oN _
      ·show Jh (dx z hz)
     ·show {y,wh _ hy,H,λz hz n=>?_,y3,y4}
      let 9||hz:=Jb.mp hz
      ·show E h v n
      ·show E z ((t z).mpr (.inr (.inr hz))) n
def J.leave(B:By T ord)(j:J T ord i g rp0 nb0)(hi:i<=T.length)(u:ord[g]?=!place)(q:place<i):∃b n,Gp.leave T place rp0 nb0 place=!(b,n)/\J T ord i (g+1) n b:=by
 let(e,s,t):=j.bnd;show j.out B hi u q t rp0 [] nb0 place {9,j.gra,λ_ _ z=>z,λx h=>(by cases h),.inl 9,{JZ _,λx h=>(by cases h)},λa=>by simpa using s a}
end
abbrev gD(l:7 3)(p:4):3:=l.getD p (-1)
def lw(h:i<l.length):gD (l.set i v) p=if p=i then v else gD l p:=by
 show (l.set i v).getD p (-1)=_;rw[oa,MF]
 by_cases hp:p=i
 ·subst hp;rw[if_pos 9,if_pos h,if_pos 9];rfl
 ·rw[if_neg (JP hp),if_neg hp];rfl
structure F(nb:7 (7 4))(n:4)(dep par:7 3)(rt:4->4):Prop where
 dl:dep.length=n
 pl:par.length=n
 up:∀p,p<n->0<gD dep p->∃q:4,gD par p=(q:3)/\q<n/\lu nb q p/\gD dep q=gD dep p-1/\rt q=rt p
 ro:∀p,p<n->gD dep p=0->rt p=p
 bd:∀p,p<n->-1<=gD dep p/\gD dep p+dep.count (-1)<n
structure BB(nb:7 (7 4))(n:4):Prop where
 len:nb.length=n
 sym:∀a b,lu nb a b->lu nb b a
 lt:∀a b,lu nb a b->b<n
def Cl(nb:7 (7 4))(n:4)(dep:7 3)(rt:4->4)(X:4->Prop):Prop:=∀p,p<n->0<=gD dep p->¬ X p->∀q,lu nb p q->0<=gD dep q/\rt q=rt p
section
variable {nb:7 (7 4)} {n:4} {dep par:7 3} {rt:4->4}
def jo(a:o<dep.length)(h:gD dep o=-1)(c:v≠-1):(dep.set o v).count (-1)+1=dep.count (-1):=by
 have e:dep[o]=-1:=by
  have h':dep.getD o (-1)=-1:=h;rw[oa,li a]at h';show h'
 rw[List.count_set a,e];have d:0<dep.count (-1):=List.count_pos_iff.mpr (e▸Mo a);have b:(v==(-1:3))=5:=by simpa using c
 rw[b];simp only[beq_self_eq_true,if_true];simp;omega
def F.reach(f:F nb n dep par rt)(Q:o<n)(D:gD dep o=-1)(E:e.length=n)(hp:∀p,p≠o->gD e p=gD par p)
  (H:(v=0/\r=o)\/(0<v/\∃q:4,gD e o=(q:3)/\q<n/\lu nb q o/\gD dep q=v-1/\rt q=r)):F nb n (dep.set o v) e (λp=>if p=o then r else rt p):=by
 have t:o<dep.length:=by rw[f.dl];show Q
 have T:0<=v:=()
 have hc:=jo t D (show v≠-1 by omega);have g:=λ{p:Nat}=>lw (l:=dep) (i:=o) (p:=p) (v:=v) t;have O:dep.count (-1)<=n:=f.dl▸O6;show ⟨by rw[Kd];show f.dl,E,λp b j=>?_,λp b C=>?_,λp b=>?_⟩
 ·by_cases a:p=o
  ·subst a
   rw[g,if_pos 9]at j ⊢;let(q,q1,B,I,s,M):=(H.resolve_left ()).2;have y:q≠p:=λz=>by rw[z,D]at s;omega
   show {q,q1,B,I,?_,?_}
   ·rw[g,if_neg y];show s
   ·show (if q=p then r else rt q)=if p=p then r else rt p
    rw[if_neg y,if_pos 9];show M
  ·rw[g,if_neg a]at j ⊢
   let(q,q1,B,I,s,M):=f.up p b j;have u:q≠o:=λz=>by rw[z,D]at s;omega
   show ⟨q,by rw[hp p a];show q1,B,I,?_,?_⟩
   ·rw[g,if_neg u];show s
   ·show (if q=o then r else rt q)=if p=o then r else rt p
    rw[if_neg u,if_neg a];show M
 ·show (if p=o then r else rt p)=p
  by_cases a:p=o
  ·subst a
   rw[g,if_pos 9]at C;rw[if_pos 9];show (H.resolve_right ()).2
  ·rw[g,if_neg a]at C
   rw[if_neg a];show f.ro p b C
 ·by_cases a:p=o
  ·subst a
   rw[g,if_pos 9];let(9,_)||(_,q,_,B,_,s,_):=H
   ·omega
   ·have:=f.bd q B
    omega
  ·rw[g,if_neg a]
   have:=f.bd p b;omega
def Cl.reach(f:F nb n dep par rt)(c:Cl nb n dep rt X)(y:o<n)(u:gD dep o=-1):Cl nb n (dep.set o v) (λp=>if p=o then r else rt p) (λp=>X p\/p=o):=by
 intro p hp e s q B;have a:p≠o:=λz=>s (.inr z);have g:=λ{p:Nat}=>lw (l:=dep) (i:=o) (p:=p) (v:=v) (by rw[f.dl];show y);rw[g,if_neg a]at e;let(j,t):=c p hp e (λz=>s (.inl z)) q B;have b:q≠o:=λz=>by rw[z,u]at j;omega
 rw[g,if_neg b];show {j,?_};show (if q=o then r else rt q)=if p=o then r else rt p;rw[if_neg b,if_neg a];show t
structure W(nb:7 (7 4))(n:4)(root:4)(dep par:7 3)(st:7 4)(cur:7 4)(don:7 4)(rt:4->4):Prop where
 f:F nb n dep par rt
 wait:∀p,p∈st\/p∈cur->p<n/\0<=gD dep p/\rt p=root
 cl:Cl nb n dep rt (λp=>p∈st\/p∈cur)
 done:∀q∈don,0<=gD dep q/\rt q=root
def FH(a b:7 3):Prop:=∀p,0<=gD a p->0<=gD b p
def FH.set(a:o<l.length)(b:0<=v):FH l (l.set o v):=λp h=>by
 rw[lw a]
 split
 ·show b
 ·show h
def W.start(N:BB nb n)(f:F nb n dep par rt)(c:Cl nb n dep rt λ_=>False)(a:o<n)(b:gD dep o=-1):W nb n o (dep.set o 0) par [o] [] [] (λp=>if p=o then o else rt p):=by
 have g:=λ{p:Nat}=>lw (l:=dep) (i:=o) (p:=p) (v:=0) (by rw[f.dl];show a);show {f.reach a b f.pl (λ_ _=>rfl) (.inl ⟨9,9⟩),λp hp=>?_,λp hp e j=>?_,λq s=>(by cases s)}
 ·have:p=o:=by simpa using hp
  subst this;show ⟨a,by rw[g,if_pos 9];show JZ _,by simp⟩
 ·show Cl.reach f c (r:=o) (v:=0) a b p hp e λz=>j (by simpa using z)
def W.pop{st:7 4}(w:W nb n e dep par (st++[i]) [] [] rt):W nb n e dep par st [i] [] rt:=
 {w.f,λp hp=>w.wait p (by simpa using hp),λp a b c=>w.cl p a b (by simpa using c),λq j=>(by cases j)}
def W.close{st:7 4}(w:W nb n j dep par st [e] (nb.getD e []) rt):W nb n j dep par st [] [] rt:=by
 show ⟨w.f,λp hp=>w.wait p (by let z||z:=hp;show .inl z;cases z),λp a b c q s=>?_,λq s=>(by cases s)⟩
 by_cases i:p=e
 ·subst i
  let(t,u):=w.done q s;show {t,u.trans (w.wait p (.inr vr)).2.2.symm}
 ·show w.cl p a b (λz=>by let z||z:=z;show c (.inl z);show i (Jj.mp z)) q s
def W.old(N:BB nb n){st b:7 4}(w:W nb n e dep par st [a] b rt)(s:lu nb a o)(v:gD dep o≠-1):W nb n e dep par st [a] (b++[o]) rt:=by
 have t:=N.lt _ _ s;have i:0<=gD dep o:=by have:=(w.f.bd o t).1;omega
 show {w.f,w.wait,w.cl,λq u=>?_};let z||z:=Jc.mp u
 ·show w.done q z
 ·rw[Jj.mp z]
  show {i,?_}
  by_cases j:o∈st\/o∈[a]
  ·show (w.wait o j).2.2
  ·have:=(w.cl o t i j a (N.sym _ _ s)).2
   rw[<- this];show (w.wait a (.inr vr)).2.2
def W.new(N:BB nb n){st s:7 4}(w:W nb n e dep par st [j] s rt)(D:lu nb j o)(B:gD dep o=-1):
  W nb n e (dep.set o (gD dep j+1)) (par.set o (j:3)) (st++[o]) [j] (s++[o]) (λp=>if p=o then e else rt p):=by
 have t:=N.lt _ _ D;let(E,O,H):=w.wait j (.inr vr);have M:0<gD dep j+1:=()
 have g:=λ{p:Nat}=>lw (l:=dep) (i:=o) (p:=p) (v:=gD dep j+1) (by rw[w.f.dl];show t);have C:=λ{p:Nat}=>lw (l:=par) (i:=o) (p:=p) (v:=(j:3)) (by rw[w.f.pl];show t);have keep:∀q,0<=gD dep q->rt q=e->0<=gD (dep.set o (gD dep j+1)) q/\(if q=o then e else rt q)=e:=λq a b=>by
  have y:q≠o:=λz=>by rw[z,B]at a;omega
  rw[g,if_neg y,if_neg y];show ⟨a,b⟩
 have own:0<=gD (dep.set o (gD dep j+1)) o/\(if o=o then e else rt o)=e:=by
  rw[g,if_pos 9,if_pos 9];show {(),9}
 show ⟨w.f.reach t B (by rw[Kd];show w.f.pl) (λp hp=>by rw[C,if_neg hp]) (.inr ⟨M,j,by rw[C,if_pos 9],E,D,(),H⟩),λp hp=>?_,λp a b c=>?_,λq I=>?_⟩
 ·by_cases u:p=o
  ·subst u
   show ⟨t,own⟩
  ·let(a,b,c):=w.wait p (by let z||z:=hp;let z||z:=Jc.mp z;show .inl z;show absurd (Jj.mp z) u;show .inr z)
   show {a,keep p b c}
 ·show Cl.reach w.f w.cl (r:=e) (v:=gD dep j+1) t B p a b λz=>c ?_
  let(z||z)||z:=z
  ·show .inl (JD _ z)
  ·show .inr z
  ·show .inl (by rw[z];simp)
 ·let z||z:=Jc.mp I
  ·show keep q (w.done q z).1 (w.done q z).2
  ·rw[Jj.mp z]
   show own
structure Fo(nb:7 (7 4))(n:4)(dep par:7 3)(rt:4->4):Prop where
 f:F nb n dep par rt
 cl:Cl nb n dep rt λ_=>False
 all:∀p,p<n->0<=gD dep p
def Fo.conn(N:BB nb n)(f:Fo nb n dep par rt)(j:a<n)(h:db nb a b):rt a=rt b:=by
 have:rt a=rt b/\b<n:=by
  induction h with
  | refl=>show ⟨9,j⟩
  | step _ e i=>show ⟨i.1.trans (f.cl _ i.2 (f.all _ i.2) (λz=>z) _ e).2.symm,N.lt _ _ e⟩
 show this.1
def oq(R:4->4->Prop):7 4->Prop
 | []=>True
 | [_]=>True
 | x::y::r=>R x y/\oq R (y::r)
def mZ{R:4->4->Prop}(b:oq R (a::m)):∀{l:7 4},oq R (l++[a])->oq R (l++a::m)
 | [],_=>b
 | [x],h=>⟨h.1,b⟩
 | x::y::r,h=>⟨h.1,mZ b (l:=y::r) h.2⟩
def m7{R:4->4->Prop}{a b:4}{l:7 4}(h:oq R (l++[a]))(e:R a b):oq R (l++[a]++[b]):=by
 rw[Ju];show mZ (m:=[b]) ⟨e,trivial⟩ h
def uq{R:4->4->Prop}(s:∀a b,R a b->R b a):∀{l:7 4},oq R l->oq R l.reverse
 | [],_=>trivial
 | [x],_=>trivial
 | x::y::r,h=>by
  have c:=uq s (l:=y::r) h.2;rw[Lu]at c;rw[Lu,Lu];show m7 c (s _ _ h.1)
def ur{R:4->4->Prop}:∀{l:7 4} {k x y:4},oq R l->l[k]?=!x->l[k+1]?=!y->R x y
 | [],_,_,_,_,h,_=>by simp at h
 | [a],_,_,_,_,_,h=>by simp at h
 | a::b::r,0,x,y,h,c,d=>by
  cases (by simpa using c:a=x);cases (by simpa using d:b=y);show h.1
 | a::b::r,k+1,x,y,h,c,d=>ur (l:=b::r) (k:=k) h.2 (by simpa using c) (by simpa using d)
structure Pt(nb:7 (7 4))(n:4)(dep:7 3)(rt:4->4)(c d:4)(i1:7 4)(a:4)(i2:7 4)(b:4):Prop where
 an:a<n
 bn:b<n
 s1:∀v∈i1,v<n
 s2:∀v∈i2,v<n
 l1:oq (lu nb) (i1++[a])
 l2:oq (lu nb) (i2++[b])
 f1:(i1++[a]).head?=!c
 f2:(i2++[b]).head?=!d
 d1:gD dep a+i1.length=gD dep c
 d2:gD dep b+i2.length=gD dep d
 r:rt a=rt b
 a1:∀v∈i1,gD dep a<gD dep v/\gD dep b<=gD dep v
 b2:∀v∈i2,gD dep b<gD dep v/\gD dep a<gD dep v
 n1:i1.Nodup
 n2:i2.Nodup
 x1:∀v∈i1,v∉i2/\v≠b
 x2:∀v∈i2,v≠a
def re{d:Type}{l:7 d}{a b c:d}(h:(l++[a]).head?=!c):(l++[a]++[b]).head?=!c:=by
 cases l with
 | nil=>show h
 | cons x r=>show h
def lx{l:7 4}{a:4}(h:l.Nodup)(b:a∉l):(l++[a]).Nodup:=by
 rw[List.nodup_append];show ⟨h,by simp,λx c y d z=>b (by rw[<- Jj.mp d,<- z];show c)⟩
variable {c d:4} {i1 i2:7 4} {a b:4}
def Pt.one(N:BB nb n)(f:Fo nb n dep par rt)(p:Pt nb n dep rt c d i1 a i2 b)(i:a≠b)(I:gD dep b<=gD dep a):
  ∃s:4,gD par a=(s:3)/\gD dep s=gD dep a-1/\Pt nb n dep rt c d (i1++[a]) s i2 b:=by
 have y:=f.all a p.an;have B:=f.all b p.bn;have j:0<gD dep a:=by
  let z||z:=Int.lt_or_le 0 (gD dep a)
  ·show z
  ·have t:=f.f.ro a p.an ()
   have u:=f.f.ro b p.bn ();show absurd (t.symm.trans (p.r.trans u)) i
 let(q,q1,C,D,E,H):=f.f.up a p.an j;show {q,q1,E,C,p.bn,λv e=>?_,p.s2,m7 p.l1 (N.sym _ _ D),p.l2,re p.f1,p.f2,?_,p.d2,H.trans p.r,λv e=>?_,λv e=>?_,lx p.n1 λz=>?_,p.n2,λv e=>?_,λv e z=>?_}
 ·let z||z:=Jc.mp e
  ·show p.s1 v z
  ·rw[Jj.mp z];show p.an
 ·rw[sB];have:=p.d1;simp only[vl,Jo];omega
 ·let z||z:=Jc.mp e
  ·have:=p.a1 v z;omega
  ·rw[Jj.mp z];omega
 ·have:=p.b2 v e;omega
 ·have:=p.a1 a z;omega
 ·let z||z:=Jc.mp e
  ·show p.x1 v z
  ·rw[Jj.mp z];show {λw=>p.x2 a w 9,i}
 ·have:=p.b2 v e;rw[z]at this;omega
def Pt.two(N:BB nb n)(f:Fo nb n dep par rt)(p:Pt nb n dep rt c d i1 a i2 b)(j:a≠b)(D:gD dep a<gD dep b):
  ∃i:4,gD par b=(i:3)/\gD dep i=gD dep b-1/\Pt nb n dep rt c d i1 a (i2++[b]) i:=by
 have t:=f.all a p.an;let(q,q1,u,y,B,C):=f.f.up b p.bn ();show {q,q1,B,p.an,u,p.s1,λv e=>?_,p.l1,m7 p.l2 (N.sym _ _ y),p.f1,re p.f2,p.d1,?_,p.r.trans C.symm,λv e=>?_,λv e=>?_,p.n1,lx p.n2 λz=>?_,λv e=>?_,λv e z=>?_}
 ·let z||z:=Jc.mp e
  ·show p.s2 v z
  ·rw[Jj.mp z];show p.bn
 ·rw[sB];have:=p.d2;simp only[vl,Jo];omega
 ·have:=p.a1 v e;omega
 ·let z||z:=Jc.mp e
  ·have:=p.b2 v z;omega
  ·rw[Jj.mp z];omega
 ·have:=p.b2 b z;omega
 ·have s:=p.a1 v e
  show ⟨λz=>?_,λz=>by rw[z]at s;omega⟩;let z||z:=Jc.mp z
  ·show (p.x1 v e).1 z
  ·show (p.x1 v e).2 (Jj.mp z)
 ·let w||w:=Jc.mp e
  ·show p.x2 v w z
  ·show j ((Jj.mp w).symm.trans z).symm
structure FI(nb:7 (7 4))(n c d:4)(l:7 4):Prop where
 link:oq (lu nb) l
 nd:l.Nodup
 lt:∀v∈l,v<n
 first:l.head?=!c
 last:l.getLast?=!d
def Pt.ring(N:BB nb n)(p:Pt nb n dep rt c d i1 a i2 a):FI nb n c d (i1++[a]++i2.reverse)/\((i1++[a]++i2.reverse).length:3)=gD dep c+gD dep d-2*gD dep a+1:=by
 have e:i1++[a]++i2.reverse=i1++a::i2.reverse:=by simp
 have j:=uq N.sym p.l2;rw[Ln]at j;show ⟨⟨by rw[e];show mZ j p.l1,?_,λv q=>?_,?_,?_⟩,?_⟩
 ·rw[List.nodup_append]
  show {lx p.n1 λz=>?_,(List.reverse_perm i2).nodup_iff.mpr p.n2,λx s y i z=>?_}
  ·have:=(p.x1 a z).2;show this 9
  ·subst z
   rw[M8]at i;let w||w:=Jc.mp s
   ·show (p.x1 x w).1 i
   ·show p.x2 x i (Jj.mp w)
 ·let z||z:=Jc.mp q
  ·let z||z:=Jc.mp z
   ·show p.s1 v z
   ·rw[Jj.mp z];show p.an
  ·show p.s2 v (M8.mp z)
 ·rw[e,<- p.f1]
  cases i1<;>rfl
 ·rw[<- p.f2,Mc,Mc,List.getLast?_reverse]
  cases i2 with
  | nil=>rfl
  | cons x r=>rfl
 ·have t:=p.d1
  have u:=p.d2;rw[sB,sB,Kt];simp only[vl,Jo];omega
end
end Gp
namespace My
open PySem L2
def sZ{a:Type}(l:7 a):7 a:=l.drop 1++l.take 1
def sK{a:Type}(l:7 a):(sZ l).length=l.length:=by
 unfold sZ;rw[sB,JM,Jn];omega
def xT{b:Type}{l:7 b}{k:4}(h:k<l.length):(sZ l)[k]?=l[(k+1)%l.length]?:=by
 unfold sZ
 by_cases a:k+1<l.length
 ·rw[M6 a,KI (by rw[JM];omega),Ml,Qh]
 ·have e:k+1=l.length:=()
  rw[e,OA,J8 (by rw[JM];omega),JM,show k-(l.length-1)=0 by omega];rw[Lk (by decide)]
def zx(ord ring:7 4):7 3:=(ring.zip (sZ ring)).map λx=>mx (ord.take (ord.idxOf (min x.1 x.2)))
structure rf(T:7 3)(ring sh:7 4):Prop where
 len:sh.length=ring.length
 odd:ring.length%2=1
 three:03<=ring.length
 nd:ring.Nodup
 at_:∀k,k<ring.length->Yd.AY T (ring.getD k 0) (ring.getD ((k+1)%ring.length) 0) (sh.getD k 0)
def ut(B:Gp.By T ord)(h:Gp.Od T a b):∃s:4,mx (ord.take (ord.idxOf a))=(s:3)/\b<s/\s<T.length/\T.getD s 0<T.getD a 0:=by
 let(p,q,k,r,c,f):=h;have hi:=(B.lt k a c ()).mp f;have l:k∈ord.take (ord.idxOf a):=xA (i:=ord.idxOf k) (by rw[Lk hi];show B.o.at_ c);let(s,hs,o):=FC l;have n:=Bi l;have d:s<T.length:=(B.o.mem s).mp (K8 hs);show {s,o,(),d,(B.lt s a d ()).mpr ?_};let(i,e,j):=Ku hs;rw[Jn]at e;rw[List.getElem_take]at j;rw[B.o.idx (show ord[i]?=some s by rw[li (),j])];omega
def FJ(B:Gp.By T ord)(G:Gp.Gr T nb)(R:Gp.FI nb T.length c d ring)(i:Gp.Od T c d)(l:ring.length%2=1):∃sh:7 4,zx ord ring=sh.map (λ(p:Nat)=>(p:3))/\rf T ring sh:=by
 have t:c≠d:=vu i.1;have M:03<=ring.length:=by
  have n:=R.first;have o:=R.last;let _||(x,_||(y,_||(z,r))):=ring
  ·cases n
  ·cases n
   cases o;show absurd 9 t
  ·simp at l
  ·simp only[vl];omega
 have C:∀k a b,ring[k]?=!a->ring[(k+1)%ring.length]?=!b->Gp.Od T (min a b) (max a b):=λk a b f h=>by
  have j:=(op.mp f).1
  by_cases N:k+1<ring.length
  ·rw[M6 N]at h
   show G.od a b (Gp.ur R.link f h)
  ·have e:k+1=ring.length:=()
   rw[e,OA]at h;have n:=R.first;have o:=R.last;rw[List.head?_eq_getElem?,h]at n;rw[Ke,show ring.length-1=k by omega,f]at o;cases n;cases o;rw[LO (Jh i.1),OJ (Jh i.1)];show i
 have A:(ring.zip (sZ ring)).length=ring.length:=by rw[Mi,sK,NI]
 have D:∀k a b,ring[k]?=!a->ring[(k+1)%ring.length]?=!b->(ring.zip (sZ ring))[k]?=!(a,b):=λk a b f h=>by
  have j:=(op.mp f).1;rw[K2];show ⟨f,by rw[xT j];show h⟩
 have v:∀k,k<ring.length->∃a b,ring[k]?=!a/\ring[(k+1)%ring.length]?=!b:=λk j=>{_,_,li j,li (mod_lt _ ())};show ⟨(zx ord ring).map Qw,?_,by rw[lj];unfold zx;rw[lj,A],l,M,R.nd,λk j=>?_⟩
 ·show KQ λk=>?_
  rw[r6,r6]
  by_cases j:k<ring.length
  ·let(a,b,f,h):=v k j
   let(s,q,_):=ut B (C k a b f h);unfold zx;rw[r6,D k a b f h];show some (mx _)=!(((mx _).toNat:4):3);show some (mx (ord.take (ord.idxOf (min a b))))=!(((mx (ord.take (ord.idxOf (min a b)))).toNat:4):3);rw[q];rfl
  ·rw[Jk.mpr (by unfold zx;rw[lj,A];omega)]
   rfl
 ·let(a,b,f,h):=v k j
  have u:=C k a b f h;let(s,q,O,Q,U):=ut B u;have E:ring.getD k 0=a:=by rw[oa,f];rfl
  have H:ring.getD ((k+1)%ring.length) 0=b:=by rw[oa,h];rfl
  have I:((zx ord ring).map Qw).getD k 0=s:=by
   rw[oa,r6];unfold zx;rw[r6,D k a b f h];show (mx (ord.take (ord.idxOf (min a b)))).toNat=s;rw[q];show Ji s
  rw[E,H,I];show ⟨u.1,O,Q,U,u.2.1⟩
end My
namespace L2
open PySem
def Hu:Js ("set":xD)=!.type "set":=by decide +kernel
end L2
namespace PySem
open Sem (wp)
def Do(a b c:n5):checkTypeCall "zip" {[a,b,c],[]}=pure Jr:=by kernel_rfl
def FK(a b c:n5):checkBuiltinCall "zip.__new__" {[.type "zip",a,b,c],[]}=pure Jr:=by kernel_rfl
def Dp(a b c d:n5):argsOk "object.__init__" {[a,b,c,d],[]}:=by
 unfold argsOk;rw[signature?_of (id := "object.__init__") (n:=['_','_','t','i','n','i','_','_']) (o:=['t','c','e','j','b','o']) (by kernel_rfl) F.owner_object];kernel_rfl
abbrev bZ(h:Jz)(T:mu)(a b c:n5):Prop:=h.get? T=some { cls:=.type "tuple",data:=.seq #[a,b,c] }
structure FL(z TI TO i1 i2 i3 l1 l2 l3:mu):Prop where
 TIz:TI≠z
 TOz:TO≠z
 i1z:i1≠z
 i2z:i2≠z
 i3z:i3≠z
 TITO:TI≠TO
 TIi1:TI≠i1
 TIi2:TI≠i2
 TIi3:TI≠i3
 TOi1:TO≠i1
 TOi2:TO≠i2
 TOi3:TO≠i3
 i12:i1≠i2
 i13:i1≠i3
 i23:i2≠i3
 l1z:l1≠z
 l2z:l2≠z
 l3z:l3≠z
 l2TO:l2≠TO
 l3TO:l3≠TO
 l2i1:l2≠i1
 l3i1:l3≠i1
 l3i2:l3≠i2
def FM{i1 a i3 TI TO z b c d:4}(e:i1<a)(f:a<i3)(h:i3<TI)(i:TI<TO)(j:TO<z)(l:b<i1)(n:c<i1)(hc:d<i1):FL z TI TO i1 a i3 b c d:=by
 show {?_,?_,?_,?_,?_,?_,?_,?_,?_,?_,?_,?_,?_,?_,?_,?_,?_,?_,?_,?_,?_,?_,?_}<;>first | show vu () | show Kg ()
section
variable {prog:IY} {w:Je} {A:Jq} {E:n5->pe->Prop} {s:pe}
def vC(d:bZ s.heap T a b c)
  (h:∀h',h'.get? T=some { cls:=.type "tuple",data:=.seq ((#[a,b,c]:Array n5).setIfInBounds k x) }->Np T s.heap h'->Q Jr { s with heap:=h' }):
  wpAny (model prog w) A (Qx T (·.setIfInBounds k x)) Q E s:=by
 show Me d 9 (h _ ?_ (Lo ..));rw[KA _ d 9];simp[JC]
variable {z TI TO i1 i2 i3 l1 l2 l3:mu} {xs ys zs:Array n5} {x y u a b c:n5} {k:4}
def Dq{Q:n5->pe->Prop}(D:FL z TI TO i1 i2 i3 l1 l2 l3)
  (I:NE s.heap z TI TO .none) (ac:bZ s.heap TI (.ref i1) (.ref i2) (.ref i3)) (an:bZ s.heap TO a b c) (h1:s.heap.IsListIter i1 l1 k) (h2:s.heap.IsListIter i2 l2 k) (h3:s.heap.IsListIter i3 l3 k)
  (ap:s.heap.IsList l1 xs) (as:s.heap.IsList l2 ys) (aA:s.heap.IsList l3 zs) (hx:xs[k]?=!x) (hy:ys[k]?=!y) (hu:zs[k]?=!u)
  (hQ:∀h',NE h' z TI TO (rawInt ↑s)->bZ h' TO x y u->h'.IsListIter i1 l1 (k+1)->h'.IsListIter i2 l2 (k+1)->h'.IsListIter i3 l3 (k+1)->bZ h' ↑s x y u->h'.objs.size=↑s+1->
   (∀d o,d≠z->d≠TO->d≠i1->d≠i2->d≠i3->s.heap.get? d=!o->h'.get? d=!o)->Q (.ref ↑s) { s with heap:=h' }):
  wpAny (model prog w) A (Nb.«zip.__next__» {[.ref z],[]}) (λab s'=>∃v,ab=.done (.ret v)/\Q v s') E s:=by
 show wpAny _ _ (field (.ref z) 2 >>= _) _ _ _;show mi (JY I 9 (x:=.bool 5) 9 ?_);show wpAny _ _ (field (.ref z) 03 >>= _) _ _ _;show mi (JY I 9 (x:=.ref TI) 9 ?_);show mi (Kv ac 9 ?_);show wpAny _ _ (Kj (.ref z) >>= _) _ _ _;show mi ?_;unfold Kj;show mi (JY I 9 (x:=.none) 9 (ri ?_));simp only[if_true];show mi (KU ?_);show mi (JY I 9 (x:=.ref TO) 9 ?_);show mi (Lv I (by simp) λg1 z1 h=>?_)
 replace z1:NE g1 z TI TO .ellipsis:=z1;show mi ?_;simp only[Og,List.zipIdx_nil,PU,Pd];show mi (mi (N4 ?_));show wpAny _ _ (K4 (.ref i1) >>= _) _ _ _;show mi (MN (h1.extBut h.extBut D.i1z) (ap.extBut h.extBut D.l1z) hx λg2 n2 l=>ri ?_);have t2:bZ g2 TO a b c:=l.extBut _ _ D.TOi1 (h.extBut _ _ D.TOz an);show mi (Kv t2 9 ?_);show mi (vC t2 λg3 t3 n=>?_);replace t3:bZ g3 TO x b c:=t3;show mi (Lp (ri ?_))
 show mi (mi (N4 ?_));show wpAny _ _ (K4 (.ref i2) >>= _) _ _ _;show mi (MN (((h2.extBut h.extBut D.i2z).extBut l.extBut D.i12.symm).extBut n.extBut D.TOi2.symm) (((as.extBut h.extBut D.l2z).extBut l.extBut D.l2i1).extBut n.extBut D.l2TO) hy λg4 n4 q=>ri ?_);have t4:bZ g4 TO x b c:=q.extBut _ _ D.TOi2 t3;show mi (Kv t4 9 ?_);show mi (vC t4 λg5 t5 r=>?_);replace t5:bZ g5 TO x y c:=t5;show mi (Lp (ri ?_));show mi (mi (N4 ?_));show wpAny _ _ (K4 (.ref i3) >>= _) _ _ _
 show mi (MN (((((h3.extBut h.extBut D.i3z).extBut l.extBut D.i13.symm).extBut n.extBut D.TOi3.symm).extBut q.extBut D.i23.symm).extBut r.extBut D.TOi3.symm)
  (((((aA.extBut h.extBut D.l3z).extBut l.extBut D.l3i1).extBut n.extBut D.l3TO).extBut q.extBut D.l3i2).extBut r.extBut D.l3TO) hu λg6 n6 t=>ri ?_)
 have t6:bZ g6 TO x y c:=t.extBut _ _ D.TOi3 t5;show mi (Kv t6 9 ?_);show mi (vC t6 λf N B=>?_);replace N:bZ f TO x y u:=N;show mi (Lp (ri (ri ?_)));show mi (Kv N 9 ?_);show mi (O0 ?_);have hsz:f.objs.size=↑s:=by rw[B.1,t.1,r.1,q.1,n.1,l.1,h.1]
 have z7:NE f z TI TO .ellipsis:=B.extBut _ _ D.TOz.symm (t.extBut _ _ D.i3z.symm (r.extBut _ _ D.TOz.symm (q.extBut _ _ D.i2z.symm (n.extBut _ _ D.TOz.symm (l.extBut _ _ D.i1z.symm z1)))));have k7:∀d o,d≠z->d≠TO->d≠i1->d≠i2->d≠i3->s.heap.get? d=!o->f.get? d=!o:=λd o p C O T U e=>
  B.extBut _ _ C (t.extBut _ _ U (r.extBut _ _ C (q.extBut _ _ T (n.extBut _ _ C (l.extBut _ _ O (h.extBut _ _ p e))))))
 have a1:f.IsListIter i1 l1 (k+1):=((((n2.extBut n.extBut D.TOi1.symm).extBut q.extBut D.i12).extBut r.extBut D.TOi1.symm).extBut t.extBut D.i13).extBut B.extBut D.TOi1.symm;have a2:f.IsListIter i2 l2 (k+1):=((n4.extBut r.extBut D.TOi2.symm).extBut t.extBut D.i23).extBut B.extBut D.TOi2.symm;have a3:f.IsListIter i3 l3 (k+1):=n6.extBut B.extBut D.TOi3.symm;have j:z<f.objs.size:=xE z7;show wpAny _ _ (LX (.ref z) (.ref f.objs.size) >>= _) _ _ _;show mi ?_;unfold LX;have z8:NE (f.push { cls:=.type "tuple",data:=.seq #[x,y,u] }) z TI TO .ellipsis:=pu _ z7
 show mi (Lv z8 (by simp) λg8 z9 s8=>?_);replace z9:NE g8 z TI TO (rawInt f.objs.size):=z9;show Lv z9 (by simp) λH i s9=>?_;replace i:NE H z TI TO (rawInt f.objs.size):=i;have M:∀d o,d≠z->f.get? d=!o->H.get? d=!o:=λd o p e=>s9.extBut _ _ p (s8.extBut _ _ p (pu _ e));have tT:bZ H f.objs.size x y u:=s9.extBut _ _ (Kg j) (s8.extBut _ _ (Kg j) (y8 _ 9));have zz:H.objs.size=f.objs.size+1:=by rw[s9.1,s8.1,Jl]
 rw[hsz]at i tT zz;show ri {_,9,?_};show Q (.ref f.objs.size) _;rw[hsz];show hQ H i (M _ _ D.TOz N) (a1.at λo e=>M _ o D.i1z e) (a2.at λo e=>M _ o D.i2z e) (a3.at λo e=>M _ o D.i3z e) tT zz λd o p C O T U e=>M d o p (k7 d o p C O T U e)
def FN(U:A.handled=8)(D:FL z TI TO i1 i2 i3 l1 l2 l3)(i:NE s.heap z TI TO .none)(j:bZ s.heap TI (.ref i1) (.ref i2) (.ref i3))
  (N:s.heap.IsListIter i1 l1 k) (n:s.heap.IsList l1 xs) (hx:xs[k]?=8)
  (O:∀h' e,(∀d o,d≠z->d≠i1->s.heap.get? d=!o->h'.get? d=!o)->(∃o,h'.get? e=!o/\o.cls=.type "StopIteration")->E (.ref e) { s with heap:=h' }):
  wpAny (model prog w) A (Nb.«zip.__next__» {[.ref z],[]}) Q E s:=by
 show wpAny _ _ (field (.ref z) 2 >>= _) _ _ _;show mi (JY i 9 (x:=.bool 5) 9 ?_);show wpAny _ _ (field (.ref z) 03 >>= _) _ _ _;show mi (JY i 9 (x:=.ref TI) 9 ?_);show mi (Kv j 9 ?_);show wpAny _ _ (Kj (.ref z) >>= _) _ _ _;show mi ?_;unfold Kj;show mi (JY i 9 (x:=.none) 9 (ri ?_));simp only[if_true];show mi (KU ?_);show mi (JY i 9 (x:=.ref TO) 9 ?_);show mi (Lv i (by simp) λH r p=>?_)
 replace r:NE H z TI TO .ellipsis:=r;show mi ?_;simp only[Og,List.zipIdx_nil,PU,Pd];show mi (mi (N4 ?_));show wpAny _ _ (K4 (.ref i1) >>= _) _ _ _;show mi (wpAny_nextOf_list_end U (N.extBut p.extBut D.i1z) (n.extBut p.extBut D.l1z) hx λI e v T=>?_);let(oe,f,h):=T;have z2:NE I z TI TO .ellipsis:=v _ _ D.i1z.symm r;have l:e≠z:=λq=>by subst q;rw[z2]at f;cases f;simp at h
 show Lv z2 (by simp) λM _ B=>O M e (λd o t C q=>B.extBut _ _ t (v _ _ C (p.extBut _ _ t q))) {oe,B.extBut _ _ l f,h}
def zy(D:FL z TI TO i1 i2 i3 l1 l2 l3)
  (n:NE s.heap z TI TO .none) (e:bZ s.heap TI (.ref i1) (.ref i2) (.ref i3)) (f:bZ s.heap TO a b c) (I:s.heap.IsListIter i1 l1 k) (M:s.heap.IsListIter i2 l2 k) (N:s.heap.IsListIter i3 l3 k)
  (h:s.heap.IsList l1 xs) (i:s.heap.IsList l2 ys) (j:s.heap.IsList l3 zs) (U:xs[k]?=!x) (hy:ys[k]?=!y) (T:zs[k]?=!u)
  (O:∀h',NE h' z TI TO (rawInt ↑s)->bZ h' TO x y u->h'.IsListIter i1 l1 (k+1)->h'.IsListIter i2 l2 (k+1)->h'.IsListIter i3 l3 (k+1)->bZ h' ↑s x y u->h'.objs.size=↑s+1->
   (∀d o,d≠z->d≠TO->d≠i1->d≠i2->d≠i3->s.heap.get? d=!o->h'.get? d=!o)->Q (!.ref ↑s) { s with heap:=h' }):
  wpAny (model prog w) A (Ou (.ref z)) Q E s:=by
 have l:s.TypeIs (.ref z) "zip":={_,n,9};unfold Ou;show mi (N1 (Ol (name:=rd "__next__") l F.slot_zip_next (Oj F.slot_zip_next l F.entry_zip_next (Dq D n e f I M N h i j U hy T λh' p q r t v B C H=>ri (O h' p q r t v B C H)) (F.args_zip_next_1 _))))
def BC(q:A.handled=8)(D:FL z TI TO i1 i2 i3 l1 l2 l3)(j:NE s.heap z TI TO .none)(f:bZ s.heap TI (.ref i1) (.ref i2) (.ref i3))
  (l:s.heap.IsListIter i1 l1 k) (h:s.heap.IsList l1 xs) (v:xs[k]?=8)
  (n:∀h',(∀d o,d≠z->d≠i1->s.heap.get? d=!o->h'.get? d=!o)->Q 8 { s with heap:=h' }):wpAny (model prog w) A (Ou (.ref z)) Q E s:=by
 have i:s.TypeIs (.ref z) "zip":={_,j,9};unfold Ou;show mi (N1 (Ol (name:=rd "__next__") i F.slot_zip_next (Oj F.slot_zip_next i F.entry_zip_next (FN q D j f l h v λh' e r p=>?_) (F.args_zip_next_1 _))));let(o,t,hc):=p;show mi (wpAny_isInstance (T := "StopIteration") (b:=6) ⟨o,t,hc⟩ isSubtype_stop (ri (n _ r)))
end
abbrev sL(h:Jz)(a:mu):Jz:=h.push { cls:=.type "list_iterator",data:=.fields #[.ref a,.int 0 0] }
abbrev Dr(h:Jz)(a b:mu):Jz:=sL (sL h a) b
abbrev Ds(h:Jz)(a b c:mu):Jz:=sL (Dr h a b) c
abbrev Du(h:Jz)(a b c:mu):Jz:=(Ds h a b c).push { cls:=.type "tuple",data:=.seq #[.ref h.objs.size,.ref (sL h a).objs.size,.ref (Dr h a b).objs.size] }
abbrev Dv(h:Jz)(a b c:mu):Jz:=(Du h a b c).push { cls:=.type "tuple",data:=.seq #[.none,.none,.none] }
abbrev vD(h:Jz)(a b c:mu):Jz:=(Dv h a b c).push { cls:=.type "zip",data:=.fields #[.none,.bool 5,.bool 5,.ref (Ds h a b c).objs.size,.ref (Du h a b c).objs.size] }
def BD(a b c:mu)(xs ys zs:Array n5):
  Meets (Nb.«zip.__new__» {[.type "zip",.ref a,.ref b,.ref c],[]}) (λ_ R s=>s.heap.IsList a xs/\s.heap.IsList b ys/\s.heap.IsList c zs /\
   R (.ok (.ret (.ref (Dv s.heap a b c).objs.size))) { s with heap:=vD s.heap a b c }):=
 .of_wp λprog w A R s h=>by
  let(hp,g,d,o,os):=s;let(j,l,n,h):=h;have p:=sub_zip;have e:QA (QB ⟨hp,g,d,o,os⟩) a xs:=j;have f:QA (QB {sL hp a,g,d,o,os}) b ys:=Om l _;have i:QA (QB {sL (sL hp a) b,g,d,o,os}) c zs:=Om (Om n _) _
  wp_walk using K9 e,K9 f,K9 i
  show {_,9,h}
section
variable {prog:IY} {w:Je} {A:Jq} {E:n5->pe->Prop} {s:pe}
def Dw(p:s.heap.IsList b xs)(r:s.heap.IsList d ys)(t:s.heap.IsList e zs)
  (h:∀h',NE h' (↑s+05) (↑s+03) (↑s+04) .none->bZ h' (↑s+03) (.ref ↑s) (.ref (↑s+1)) (.ref (↑s+2))->
   bZ h' (↑s+04) .none .none .none->h'.IsListIter ↑s b 0->h'.IsListIter (↑s+1) d 0->h'.IsListIter (↑s+2) e 0->
   (∀c o,s.heap.get? c=!o->h'.get? c=!o)->Q (.ref (↑s+05)) { s with heap:=h' }):
  wpAny (model prog w) A (call (.type "zip") [.ref b,.ref d,.ref e]) Q E s:=by
 show callType_new F.called_zip (by decide) (Do _ _ _) (FK _ _ _) (λu=>Dp u _ _ _) F.entry_zip_new (BD b d e xs ys zs) {p,r,t,?_};have f:(sL s.heap b).objs.size=↑s+1:=Jl ..;have i:(Dr s.heap b d).objs.size=↑s+2:=by rw[Jl,f]
 have j:(Ds s.heap b d e).objs.size=↑s+03:=by rw[Jl,i]
 have l:(Du s.heap b d e).objs.size=↑s+04:=by rw[Jl,j]
 have v:(Dv s.heap b d e).objs.size=↑s+05:=by rw[Jl,l]
 have a:∀{h:Jz} {o:Ky} {c:mu} {x:Ky},h.get? c=!x->(h.push o).get? c=!x:=λq=>pu _ q;have n:(vD s.heap b d e).get? (Dv s.heap b d e).objs.size=!_:=y8 _ 9;have C:(vD s.heap b d e).get? (Du s.heap b d e).objs.size=!_:=a (y8 _ 9);have B:(vD s.heap b d e).get? (Ds s.heap b d e).objs.size=!_:=a (a (y8 _ 9));have z:(vD s.heap b d e).get? (Dr s.heap b d).objs.size=!_:=a (a (a (y8 _ 9)));have y:(vD s.heap b d e).get? (sL s.heap b).objs.size=!_:=a (a (a (a (y8 _ 9))))
 have D:(vD s.heap b d e).get? ↑s=!_:=a (a (a (a (a (y8 _ 9)))));show _/\_;rw[j,l,v]at n;rw[l]at C;rw[f,i,j]at B;rw[i]at z;rw[f]at y;rw[v];show {{_,n,9},h _ n B C {_,D,9,9} {_,y,9,9} {_,z,9,9} λc o q=>a (a (a (a (a (a q)))))}
end
end PySem
namespace L2
open PySem PySem.Spec PyProof.Rows
def FO(K:PySem.W.Frag)(a b c:mu):It:=
 ⟨λi H=>∃xs ys zs x y z,ak K H a xs/\ak K H b ys/\ak K H c zs/\xs[i]?=!x/\ys[i]?=!y/\zs[i]?=!z,
  λi H v d=>∃t x y z,v=.ref t/\H t=8/\d=upd H t (.tup [x,y,z])/\(∀xs,ak K H a xs->xs[i]?=!x)/\(∀ys,ak K H b ys->ys[i]?=!y)/\∀zs,ak K H c zs->zs[i]?=!z,
  λi H=>∃xs,ak K H a xs/\xs.length<=i⟩
def zA{P:IY}{w:Je}{K:PySem.W.Frag}{es:7 JF}{k:4}{aC:LM}(a b c z TI TO i1 A i3:mu)(D:FL z TI TO i1 A i3 a b c):
  uX P w K (.Tuple es k aC) (FO K a b c) [z,TI,TO,i1,A,i3] z (λi h=>NE h z TI TO .none/\bZ h TI (.ref i1) (.ref A) (.ref i3)/\(∃x y u,bZ h TO x y u)/\h.IsListIter i1 a i/\h.IsListIter A b i/\h.IsListIter i3 c i) where
 mem:=by simp
 obj:=λi h st d f=>by
  let(B,j,(x,y,u,p),(o1,e1,c1,d1),(o2,e2,c2,d2),o3,e3,c3,d3):=st;simp only[Jb,Lf,or_false]at f;have fz:∀{vs:Array n5} {v:Option n5},Nf vs≠MY v:=λq=>by cases q
  have sz:∀{vs:Array n5} {n:4} {v:Option n5},Data.seq vs n≠MY v:=λq=>by cases q
  let 9||9||9||9||9||9:=f
  ·show {_,B,λv q=>fz q}
  ·show {_,j,λv q=>sz q}
  ·show {_,p,λv q=>sz q}
  ·show ⟨_,e1,λv q=>by rw[d1]at q;cases q⟩
  ·show ⟨_,e2,λv q=>by rw[d2]at q;cases q⟩
  ·show ⟨_,e3,λv q=>by rw[d3]at q;cases q⟩
 keep:=λi h h' st k=>⟨k z (by simp) _ st.1,k TI (by simp) _ st.2.1,let ⟨x,y,u,q⟩:=st.2.2.1;{x,y,u,k TO (by simp) _ q},st.2.2.2.1.at λo q=>k i1 (by simp) o q,st.2.2.2.2.1.at λo q=>k A (by simp) o q,st.2.2.2.2.2.at λo q=>k i3 (by simp) o q⟩
 item:=by
  intro X hP hw hK hc i U s σ H E I hf st hg;subst hP hw hK;let(xs,ys,zs,x,y,u,t,N,O,hx,hy,hu):=hg;let(T,rv1,p1,aA):=I.list t;let(a5,a3,p2,bb):=I.list N;let(a6,a4,p3,bc):=I.list O;let(u1,an,a0):=rv1.get hx;let(u2,ap,a1):=a3.get hy;let(u3,as,a2):=a4.get hu;let(B,j,(x0,y0,z0,p),r,C,M):=st;show zy D B j p r C M p1.isList p2.isList p3.isList (x:=u1) (y:=u2) (u:=u3) (by simpa using an) (by simpa using ap) (by simpa using as) λh1 gz ab g1 g2 g3 gT a7 gk=>{_,9,?_};have lz:z<↑s:=xE B
  have lT:∀c∈[z,TI,TO,i1,A,i3],c<↑s:=λc f=>by
   simp only[Jb,Lf,or_false]at f;let 9||9||9||9||9||9:=f
   ·show lz
   ·show xE j
   ·show xE p
   ·let(_,q,_):=r;show xE q
   ·let(_,q,_):=C;show xE q
   ·let(_,q,_):=M;show xE q
  show NN gz λh2 ac l=>?_;show ⟨.ref ↑s,upd H ↑s (.tup [x,y,u]),?_,9,⟨_,x,y,u,9,I.hok.fresh (oN _),9,λvs Q=>by rw[I.list_inj Q t];show hx,λvs Q=>by rw[I.list_inj Q N];show hy,λvs Q=>by rw[I.list_inj Q O];show hu⟩,
   {ac,l.extBut _ _ D.TIz (gk _ _ D.TIz D.TITO D.TIi1 D.TIi2 D.TIi3 j),{_,_,_,l.extBut _ _ D.TOz ab},g1.at λo q=>l.extBut _ _ D.i1z q,g2.at λo q=>l.extBut _ _ D.i2z q,g3.at λo q=>l.extBut _ _ D.i3z q},λc f=>?_⟩
  ·show I.turnedLaid (ch:=[z,TI,TO,i1,A,i3]) hf (λc ob f q=>l.extBut _ _ (λe=>f (by simp[e])) (gk c ob (λe=>f (by simp[e])) (λe=>f (by simp[e])) (λe=>f (by simp[e])) (λe=>f (by simp[e])) (λe=>f (by simp[e])) q)) (oN _) ?_
   show rX (us:=[u1,u2,u3]) (.cons a0 (.cons a1 (.cons a2 .nil))) (by show 03<=sizeLine;decide) (l.extBut _ _ (Kg lz) gT)
  ·rw[af (vu (lT c f))]
   show (hf c f).1
 done:=by
  intro X hP hw hK hc i U s σ H E I hf st hg;subst hP hw hK;let(xs,t,hx):=hg;let(T,rv1,p1,aA):=I.list t;let(B,j,_,r,_,_):=st;have a8:=rv1.length;show BC (I.ok.hd hc) D B j r p1.isList (by simp;omega) λh1 eb=>{9,I.turnedAll (t':=s.toks) (ch:=[z,TI,TO,i1,A,i3]) hf λc ob f q=>eb c ob (λe=>f (by simp[e])) (λe=>f (by simp[e])) q}
 self:=λ_ _ _ _ _ st h=>M5 st.1 h
def Hv(K:PySem.W.Frag)(d:TA):TI:=λσ H R=>d σ H λvs H1=>∃a b c,vs=[.ref a,.ref b,.ref c]/\(∃xs,ak K H1 a xs)/\(∃ys,ak K H1 b ys)/\(∃zs,ak K H1 c zs)/\R (FO K a b c) H1
def BE {X:Cx} {K:PySem.W.Frag} {es:7 JF} {k:4} {u:LM} {l m n:JF} {ta:TA} {p t:LM} (hK:X.K=K) (hg:Gl X "zip") (hm:X.mg "zip"=8) (ha:PA X [l,m,n] ta)
  (hs:starEach [l,m,n] X.env=[(5,eval l X.env),(5,eval m X.env),(5,eval n X.env)]:=by rfl) (hs2:starEach [m,n] X.env=[(5,eval m X.env),(5,eval n X.env)]:=by rfl):
  PI X (.Tuple es k u) (.Call (.Name "zip" p) [l,m,n] [] t) (Hv K ta):=by
 subst hK;intro i s σ H R I h;show Call_ (cZ I hg hm qI (Jx (aJ (ha t i s σ H _ I h) λus f ⟨vs,H1,j,r1,q1⟩=>?_) (by rw[hs,hs2]) (by rw[hs2];rfl)));let(a,b,c,e,(xs,y),(ys,z),(zs,A),q):=q1;subst e;let(E,M,N,9,B,C,rz):∃E M N,us=[E,M,N]/\aE (.ref a) E/\aE (.ref b) M/\aE (.ref c) N:=by
  let _||(B,_||(rv,_||(rx,_||_))):=r1
  show {_,_,_,9,B,rv,rx}
 cases B;cases C;cases rz;let(T,rv1,p1,ac):=j.list y;let(U,as,p2,an):=j.list z;let(ab,aA,p3,ap):=j.list A;have la:a<↑f:=by let(_,o,_):=p1.isList;show xE o
 have lb:b<↑f:=by let(_,o,_):=p2.isList;show xE o
 have lc:c<↑f:=by let(_,o,_):=p3.isList;show xE o
 show Dw p1.isList p2.isList p3.isList λh1 O v x g1 g2 g3 hk=>?_;have I2:ao X i σ H1 { f with heap:=h1 }:=j.kept (t':=f.toks) hk;have D:FL (↑f+05) (↑f+03) (↑f+04) ↑f (↑f+1) (↑f+2) a b c:=FM (i1:=↑f) (JG _) (JG _) (JG _) (JG _) (JG _) la lb lc;show M5 O {↑f+05,[↑f+05,↑f+03,↑f+04,↑f,↑f+1,↑f+2],_,_,H1,9,I2,zA a b c _ _ _ _ _ _ D,{O,v,{_,_,_,x},g1,g2,g3},λd Q=>?_,q}
 have r:↑f<=d:=by
  simp only[Jb,Lf,or_false]at Q;let 9||9||9||9||9||9:=Q<;>first | show oN _ | show Nat.le_add_right _ _
 show j.fpOk r (j.hok.fresh r)
def vE{K:PySem.W.Frag}{a b c p:mu}{xs ys zs:7 V}{g:TG}{h:TT}{te:TE}{Q:Hp->Prop}{σ:St}{H:Hp}(Pv:4->St->Hp->Prop)(u:Pv 0 σ H)(U:ys.length=xs.length)(e2:zs.length=xs.length)(A:∀i σ H,Pv i σ H->ak K H a xs/\ak K H b ys/\ak K H c zs)
  (hs:∀i x y z t σ H,xs[i]?=!x->ys[i]?=!y->zs[i]?=!z->Pv i σ H->H t=8->g (.ref t) σ (upd H t (.tup [x,y,z])) λd s=>h d s λc l=>if c=6 then te d l λy n=>∃zs,n p=!.lst zs/\zs.length<sizeLine/\Pv (i+1) d (upd n p (.lst (zs++[y]))) else Pv (i+1) d l)
  (v:∀σ H,Pv xs.length σ H->Q H):tN (FO K a b c) g h te p Q σ H:=by
 show {λi m σ H=>m=xs.length-i/\i<=xs.length/\Pv i σ H,⟨xs.length,by simp,Jd _,u⟩,?_};rintro i m σ H ⟨rfl,hi,p⟩;let(q1,o,q):=A i σ H p
 by_cases f:i<xs.length
 ·have C:i<ys.length:=()
  have D:i<zs.length:=()
  show .inr {⟨xs,ys,zs,xs[i],ys[i],zs[i],q1,o,q,by simp[f],by simp[C],by simp[D]⟩,Pv (i+1),λT r E=>{xs.length-(i+1),(),9,f,E},λx r y=>?_};let(t,z,O,j,9,B,9,I,M,N):=y;show hs i z O j t σ H (I xs q1) (M ys o) (N zs q) p B
 ·have e:i=xs.length:=()
  subst e;show .inl {{xs,q1,oN _},v σ H p}
end L2
open Lean in
private def eP(v:4->Syntax)(z:4->Syntax)(q:String->Option Syntax):4->7 String->4->4->Syntax×7 String×4×4
 | 0,l,i,j=>(.missing,l,i,j)
 | _,[],i,j=>(.missing,[],i,j)
 | k+1,t::l,i,j=>
  let n:=t.front.toNat-48
  if t == "%" then (v i,l,i+1,j)
  else if t == "?" then (.node .none ``Parser.Term.syntheticHole #[mkAtom "?",z j],l,i+1,j+1)
  else if t.front=='=' then
   let (x,r):=eP v z q k l i j
   (.node .none ``Parser.Term.namedArgument #[mkAtom "(",mkIdent (t.drop 1).toName,mkAtom ":=",x,mkAtom ")"],r)
  else if n<10 then
   let (s,r):=n.fold (λ_ _ (s,l,i,j)=>let (x,r):=eP v z q k l i j;(s.push x,r)) (#[],l,i,j)
   (.node .none ``Parser.Term.app #[mkIdent (t.drop 1).toName,.node .none nullKind s],r)
  else ((q t).getD (mkIdent t.toName),l,i,j)
set_option hygiene false
local macro_rules | `(tactic| o_head $t) => do
 let (h,as) <- match t with
  | `(($u))=>match u with
   | `($h:ident $as*)=>pure (h.getId.toString,as)
   | _=>pure ("",#[t])
  | `($h:ident)=>pure (h.getId.toString,#[])
  | `($h:ident $as*)=>pure (h.getId.toString,as)
  | _=>pure ("",#[t])
 let v (i:Nat):=as.getD i t
 let n (x:Lean.Name):Lean.MacroM Lean.Ident:=do return Lean.mkIdent (<- Lean.Macro.addMacroScope x)
 let a <- n `a
 let b <- n `b
 let d <- n `d
 match h with
 | "" => `(tactic| exact pv $t)
 | "B" => `(tactic| (refine' gS ?hp ?hc ?$a:ident ?$b:ident ?$d:ident (hs := ?hs); (case hp => exact HP); (case hc => rfl); (case hs => (intro _; rfl)); (case $a:ident => o_head $(v 0)); (case $b:ident => o_head $(v 1)); (case $d:ident => o_head $(v 2))))
 | "I" => `(tactic| (refine' i9 (K := K) ?hp ?$a:ident; (case hp => rfl); (case $a:ident => o_head $(v 0))))
 | "V" => `(tactic| (refine' wE rfl (i8 (sc := ah $(v 0)) (N := $(v 1)) (cap := $(v 2)) (N' := $(v 03)) rfl rfl ⟨ rfl, by decide +kernel, by decide +kernel, by decide +kernel, rfl, by decide +kernel ⟩) ?$a:ident (fun _ _ _ _ => ?$b:ident) (fun _ _ _ _ => gW) (fun _ _ _ _ => ?$d:ident); (case $a:ident => o_head $(v 04)); (case $b:ident => o_head $(v 05)); (case $d:ident => o_head $(v 06))))
 | "W" => `(tactic| exact jT (i := $(v 0)) (show List.Nodup ($(v 1) : List Str) from by decide +kernel) (by rfl) (by exact Or.inl rfl))
 | "AA" => `(tactic| exact ⟨rfl, rfl, rfl, by decide +kernel, rfl, by decide +kernel, by decide +kernel⟩)
 | "AB" => `(tactic| refine pp $(v 0) fun f fd F => F.ok $(v 1) (fun vs H Q E h => (by (cases h; subst_vars; rfl))) (fun cdv A outer s H vs Q E hr h => ?_))
 | "AC" => `(tactic| refine oJ $(v 0) $(v 1) fun f fd F => F.ok $(v 2) (fun vs H Q E h => (by (cases h; subst_vars; rfl))) (fun cdv A outer s H vs Q E hr h => ?_))
 | "AD" => `(tactic| refine CQ $(v 0) $(v 1) fun f fd F => F.ok $(v 2) (fun vs H Q E h => (by (cases h; subst_vars; rfl))) (fun cdv A outer s H vs Q E hr h => ?_))
 | "AE" => `(tactic| (refine' ⟨_, ?$a:ident, ?_⟩; (case $a:ident => have c := $(v 0); o_head $(v 1))))
 | _=>
  let some l:=("a cz|c fR|d a9|e Gi|f zR|g Ex|h wb|i lO|j 2ai ? ?|k 1ax ?|l 2aD ? ?|m 4CH =K K R ? rfl|n 1fS ?|o 5mK =i % c.nd rfl 1Or.inl rfl ?|p 1oG ?|q 3cb ? ? ?|r 4pi % 1hr.mono D rfl ?|s 4CK =K K R ? W|t 5bP 2mR =K K R R T.aH wO ?|u 5bP 2mS =K K R R T.aG se ?|v 4wv 2Fl =K K R ? ? X|w 1Ez ?|x 2oZ ? ?|y 2GC ER ?|z 1rN ?|A 1o8 ?|C 1PW.pt ?|D 8rZ =K K R PySem.F.plainAttrs_list PySem.F.slot_list_append PySem.F.type_list_append jU ? ?|E 2wJ R %|F 5wK =K K R ? ? rfl|G 1uW ?|H 2i5 ? ?|J 3yv rfl T.aM ?|L 4Ax ? % 1hr.mono D ?|M 3yP ? % 1hr.mono D|N 5rY =K K =n % R rfl ?|O 4tR % 1hr.mono D rfl ?|P 2zU ? ?|Q 1zT ?|R 3kG 2lR =K K R ? ?|S 1Ct ?|U 4jT =i % c.nd R O|X 5mK =i % c.nd rfl 1Or.inr rfl ?|Y 3tG HP ? ?|Z 2rM ? ?|xa 6zV =i % c.nd rfl 1Or.inl rfl ? EH|xc 4Aj 2Iv =K K R ? ? ?|xd 1EA ?|xe 3tF ? ? ?|xf 5bP 1yy rfl R T.aJ G8 ?|xg 5bP 1yz rfl R T.aK G7 ?|xh 5bP 3yR =K K R R R T.aA G5 ?|xi 5bP 3yQ =K K R R R T.aB G4 ?|xj 5bP 3yS =K K R R R T.aR G6 ?|xk 5bP 2ql =K K R R T.aP AR ?|xl 5eK 2vk =K K R R T.aI vn ?|xm 5eK yB R T.aE Eg ?|xn 5eK nL R T.aM wR ?|xo 3pj rfl T.aE Eg|xp 3pj rfl T.aI vn|xq 3pj rfl T.aC Fu|xr 3pj rfl T.aS CS|xs 3pj rfl T.aQ G9|xt 3kG EM ? ?|xu 3kG EO ? ?|xv 3kG Cn ? ?|xw 3kG CG ? ?|xx 4fw 3Ay =K K R U ? ? 1bH _|xy 4fw 3vj =K K R U ? ? 1bH _|xz 4fw cL ? ? 1bH _|xA 4fw wk ? ? 1bH _|xB 4fw D3 ? ? 1bH _|xC 4fw D4 ? ? 1bH _|xD 4fw op_isC ? ? 1bH _|xE 4fw op_notC ? ? 1bH _|xF 4cu 3Ay =K K R U ? ? 1bH _|xG 4cu 3vj =K K R U ? ? 1bH _|xH 4cu cL ? ? 1bH _|xI 4cu wk ? ? 1bH _|xJ 4cu D3 ? ? 1bH _|xL 4cu D4 ? ? 1bH _|xM 4cu op_isC ? ? 1bH _|xN 4cu op_notC ? ? 1bH _|xO 5Aa % % ? ? ?|xP 5zZ % % ? ? ?|xQ 2Ey ? ?|xR 1Cg ?|xS 7CJ =K K R PySem.F.plainAttrs_list PySem.F.slot_list_pop PySem.F.type_list_pop wI ?|xU 8rZ =K K R PySem.F.plainAttrs_list PySem.F.slot_list_pop PySem.F.type_list_pop wI ? ?|xV 3yw rfl T.aM ?|xW 5Az =K K R rfl T.aD ?|xX 5CI =K K R rfl T.aT ?|xY 5BE =K K R rfl T.aT ?|xZ 3EG ? ? Am|ya 4Dc 1wB hr ? ? X".splitOn "|").find? (·.startsWith (h ++ " ")) | Lean.Macro.throwUnsupported
  let R <- `((by rfl))
  let D <- `((by decide))
  let U <- `((by exact hr.units))
  let O <- `((by exact Or.inl rfl))
  let W <- `(fun _=>rfl)
  let X <- `(fun _ _=>rfl)
  let H <- `(_)
  let q:String->Option Lean.Syntax
   | "R"=>R
   | "D"=>D
   | "U"=>U
   | "O"=>O
   | "W"=>W
   | "X"=>X
   | "_"=>H
   | _=>none
  let ts:=(l.splitOn " ").tail
  let (x,_):=eP (λi=>v i) (λi=>#[a,b,d].getD i a) q 99 ts 0 0
  let x:Lean.Term:=⟨x⟩
  let ks:=(ts.filter λx=>x == "?"||x == "%").zipIdx.filter (·.1 == "?")
  let cs <- ks.toArray.zipIdx.mapM fun (k, i) => `(tactic| (case $(#[a, b, d].getD i a):ident => o_head $(v k.2)))
  `(tactic| (refine' $x; $cs;*))
set_option hygiene true
namespace My
open PySem L2
inductive ly(K:PySem.W.Frag)(vs:7 V)(H:Hp)(Q:VK)(u3:XK):Prop
 | mk (tA mA:mu) (b:Bool) (n:4) (T:7 3) (gs:7 Gm):vs=[.ref tA,.bl b,.int n,.ref mA]->ak K H tA (T.map V.int)->T.length<300->ay H mA gs->gs.length<=1000->n<=500->(aM T b n (Yd.init n) gs=8->∀H',ag H H'->Q .non H')->(∀st,aM T b n (Yd.init n) gs=!st->∀lA H',ag H H'->H lA=8->H' lA=!.lst (st.left.map V.int)->Q (.ref lA) H')->ly K vs H Q u3
def l9(x:xD):E4 (.str x) [.str (rd "in"),.str (rd "out")]=(decide (x=rd "in")||decide (x=rd "out")):=by
 unfold E4;simp only[NB,List.any_nil,Px];show ((rd "in"==x)||(rd "out"==x))=_;congr 1
 ·rw[JO,beq_iff_eq,decide_eq_true_iff];show {λh=>h.symm,λh=>h.symm}
 ·rw[JO,beq_iff_eq,decide_eq_true_iff];show {λh=>h.symm,λh=>h.symm}
def dR:al ["_law_train", "_law_blind", "_law_many", "_law_moves", "_law_tracks", "_law_left", "_law_came", "_law_move"] ["_law_train", "_law_blind", "_law_many", "_law_moves"] (ah eV):=by o_head AA
def fe(T:Tx K mg Z):fU P w K mg base bu 1 "_law_brought" ["_law_train", "_law_blind", "_law_many", "_law_moves"] (ly K):=by
 o_head (AB T.bK dR)
 let(tA,mA,b,n,tr,gs,9,hT,dy,(rs,ch,a5),dx,dV,kN,kS):=h;refine' {_,?hterm,?_}
 case hterm=>
  have c:=dR;refine' ai ?q1 ?q2
  case q1=>
   refine' CP (i:=04) (j:=05) (k:=06) 9 dR.nd 9 9 9 (by decide) (by decide) (by decide) 9 9 9 ?q3 (by kernel_rfl) (hs:=by kernel_rfl)
   case q3=>o_head (l (V eV ["_law_train", "_law_blind", "_law_many", "_law_moves", "_law_tracks", "_law_left", "_law_came", "_law_move"] [none] ["_law_track"] (J (l 2 a)) (W 0 ["_law_track"]) (z a)) (l (z a) (l c a)))
  case' q2=>refine' ai ?cl ?cn
  case cl=>
   refine' gS HP 9 ?co ?cp ?ct
   case co=>o_head (I 03)
   case cp=>o_head (U 07)
   case' ct=>refine' ai ?cv ?cA
   case cv=>
    refine' cb ?c0 ?c1 a9
    case c0=>
     refine' PW.pt ?c2
     case' c2=>refine' oZ ?c3 ?c4
     case c3=>o_head (w (s (u (l 07 (l xr a)))))
     case' c4=>refine' oZ ?c5 ?dd
     case c5=>o_head (xG (t (l 07 a)) c)
     case' dd=>refine' uW ?dp
     case' dp=>refine' cu (qJ (K:=K) (by rfl)) ?dq ?dr (by with_unfolding_all rfl)
     case dq=>o_head (v 07 c)
     case dr=>o_head (z (l f (l f a)))
    case c1=>o_head (k (n g))
   case cA=>o_head (j (q (C (x (s (u (l (v 07 c) (l xq a)))) (x (w (s (u (l (v 07 c) (l xo a))))) (G (w (xO wk cL c (v 07 c) 2)))))) (k (n g)) d) (k (q (C (xQ (xF (v 07 c) f) (xR (xH 06 (t (l 0 a)))))) (j (p (D (v 04 (v 07 c)) (l (v 0 06) a))) (k (o 06 (R 06 c)))) (k (q (C (xQ (xF (v 07 c) f) (xR (xG (v 04 (v 07 c)) (z a))))) (k (p (D 05 (l (xe (s 1) (xS (v 04 (v 07 c))) (xU (v 04 (v 07 c)) (l c a))) a)))) (k (n g)))))))
  case cn=>o_head (k (n 05))
 have cg:rs.length=gs.length:=Paired.length a5;show {_,9,(n:3),9,(),(),λkA b2=>?_};rw[Ji]
 let b5:Nat->St->Hp->Prop:=λi σ H3=>(∃v,σ=[v])/\ag H H3/\∃ls:7 mu,uN H H3 kA ls (ra i [])
 show dn (lo:=0) (n:=n) b5
  {{_,9},ag.upd b2,[],aa,9,λj l e=>by simp at e,λi j l e=>by simp at e} ?_ ?_
 ·rintro i σ H3 hi ⟨⟨v,rfl⟩,s3,ls,hy⟩
  show {Jd _,λl hl=>{_,(hy.same (ag.upd hl)).lst,?_,{_,9},?_,ls++[l],?_}}
  ·rw[lj,hy.len,zg]
   show am ()
  ·show ag.updN (s3.trans (ag.upd hl)) b2
  ·have:=hy.push s3 hl
   rw[LJ];show this
 rintro σ H3 ⟨_,s3,ls,hy⟩;show {Jd _,λlA a0=>{_,_,_,9,?_}};have s4:ag H3 (upd H3 lA (.lst [])):=ag.upd a0;have bn:H lA=8:=s3.free a0;have bA:kA≠lA:=ae hy.lst a0;have a6:∀(j:4) l,ls[j]?=!l->l≠lA:=λj l e=>by
  let(c,_,a,_):=hy.each j l e;show ae a a0
 have b3:∀{H4:Hp},ag H H4->H4 mA=!.lst (rs.map V.ref):=λs=>s _ _ ch;show {_,9,mA,9,{_,ak.of (b3 (s3.trans s4))},?_}
 let ca:Nat->St->Hp->Prop:=λi σ H5=>∃(st:Yd.St) (v7:Option V) (c6:3),c6=(st.came:3)/\σ=[!.ref tA,!.bl b,!.int n,!.ref mA,!.ref kA,!.ref lA,!.int c6,v7]/\ag H H5/\aM tr b n (Yd.init n) (gs.take i)=!st/\uN H H5 kA ls st.tr/\H5 lA=!.lst (st.left.map V.int)/\st.left.length<=i/\st.came<=tr.length/\∀(j:4) c,st.tr[j]?=!c->c.length<=st.came
 show aT (K:=K) (a:=mA) (xs:=rs.map V.ref) ca
  ⟨Yd.init n,8,_,9,9,s3.trans s4,9,hy.same s4,aa,oN _,Jd _,λj c e=>by
   have e':(ra n ([]:7 3))[j]?=!c:=e;rw[JV]at e'
   split at e'
   ·cases e';show oN _
   ·cases e'⟩ (λi σ H5 _ h=>?_) ?_ ?_
 ·let(_,_,_,_,_,sm,_):=h
  show ak.of (b3 sm)
 ·rintro i x σ H5 hx ⟨st,v7,_,rfl,rfl,sm,M,ap,hL,a2,bb,hsz⟩
  let(r,er,9):=aK hx;let(g,eg,hg):=Paired.get a5 er;let(gx,gt):=g;have hi:i<gs.length:=(op.mp eg).1;have an:H5 r=!.tup [.str gx,.int gt]:=sm _ _ hg;have ci:st.tr.length=n:=by rw[pE M];show (ra n ([]:7 3)).length=n;rw[zg]
  have ac:∀{H6:Hp},ag H5 H6->aU tr b n st (gx,gt)=8->Q .non H6:=λs6 hs=>kN (su M eg hs) _ (sm.trans s6);show {_,9,_,_,_,_,_,9,9,dP,.tup an,ce,_,9,aO ?_};show {_,9,_,2,9,.inr {_,b9.of an,9},.inl {9,_,9,wC 9 ?_}};show ⟨_,9,.inr ⟨r,_,0,_,9,9,b9.of an,9,(by show 2<=sizeLine;decide),λwA cj=>?_⟩⟩;have s6:=ag.upd (o:=.lst [.str (rd "in"),.str (rd "out")]) cj;show {wA,_,9,.inl (ak.of aa),9,9,_,9,?_};show if (if 6=6 then (not (E4 (.str gx) [.str (rd "in"),.str (rd "out")])) else _)=6 then _ else _;rw[if_pos 9,l9]
  by_cases y:gx=rd "in"\/gx=rd "out"
  rotate_left
  ·have h1:¬ gx=rd "in":=λz=>y (.inl z)
   have h2:¬ gx=rd "out":=λz=>y (.inr z);rw[decide_eq_false h1,decide_eq_false h2];show bC (ac s6 ?_);unfold aU sY;dsimp only;rw[if_neg h1,if_neg h2]
   split<;>rfl
  rw[show (decide (gx=rd "in")||decide (gx=rd "out"))=6 from by let z||z:=y<;>simp[z]];show aO ?_;have B:=s6 _ _ an;show {_,9,.inr {r,_,1,_,9,9,b9.of B,9,_,_,_,_,_,9,9,dP,.int gt,gY,_,9,aO ?_}};show {_,9,.inr {r,_,1,_,9,9,b9.of B,9,_,_,_,_,_,9,9,dP,.int gt,ce,_,9,aO ?_}};show {_,9,.inr {r,_,1,_,9,9,b9.of B,9,0,gt,9,9,_,9,?_}}
  by_cases a3:0<=gt
  rotate_left
  ·rw[decide_eq_false a3]
   show aO {_,9,bC (ac s6 ?_)};unfold aU sY;dsimp only;rw[if_neg (λz=>a3 z.1)];rfl
  rw[decide_eq_true a3];show bC {_,9,gt,(n:3),9,9,_,9,?_}
  by_cases aC:gt<(n:3)
  rotate_left
  ·rw[decide_eq_false aC]
   show bC (ac s6 ?_);unfold aU sY;dsimp only;rw[if_neg (λz=>aC z.2)];rfl
  rw[decide_eq_true aC];show aO ?_;let(t,9):∃t:Nat,gt=(t:Int):=⟨gt.toNat,()⟩;have ht:t<n:=()
  have bc:sY n (gx,(t:3))=if gx=rd "in" then some (6,t) else if gx=rd "out" then some (5,t) else 8:=by
   unfold sY;dsimp only;rw[if_pos ⟨a3,aC⟩,Ji]
  let(l,el):∃l,ls[t]?=some l:=⟨_,li (by rw[ap.len,ci];show ht)⟩;let(c,ec,hl,bd,dA):=ap.each _ _ el;have eD:st.tr.getD t []=c:=by rw[oa,ec];rfl
  have aA:(ls.map V.ref)[t]?=!.ref l:=by rw[r6,el];rfl
  have y6:=ap.same s6;have bm:=s6 _ _ hl;have bT:=(sm.trans s6).seq hT;have bt:=a6 _ _ el;have ds:=hsz _ _ ec;show {_,9,.inr {r,_,0,_,9,9,b9.of B,9,.inl {9,_,9,?_}}};rw[Fm]
  by_cases ab:gx=rd "in"
  ·show fb ab ?_
   show {_,9,_,9,_,_,9,.inl {_,bT,9},_,_,9,9,_,9,?_};show dw (λbo=>?_) (λbo=>?_)
   ·rw[lj]at bo
    let(x,ex):∃x,tr[st.came]?=some x:=⟨_,li ()⟩;show {_,9,_,9,.inr {r,_,1,_,9,9,b9.of B,9,.inl {kA,_,_,.ref l,9,9,ak.of y6.lst,aq aA,.inl {9,_,ak.of bm},?_}}};show ⟨_,9,_,9,.inl ⟨tA,_,_,.int x,9,9,bT,aq (by rw[r6,ex];rfl),l,_,_,9,9,bm,?_,?_⟩⟩
    ·rw[lj]
     show am ()
    show {_,9,.inl {_,1,9,9,?_}};have hs:Yd.step tr b st (6,t)=some {st.tr.set t (c++[x]),st.left,st.came+1}:=by
     unfold Yd.step;rw[if_pos 9,ex];show some (Yd.St.mk (st.tr.set t (st.tr.getD t []++[x])) st.left (st.came+1))=_;rw[eD]
    have e1:(st.came:3)+1=((st.came+1:4):3):=()
    have y7:=y6.set el (c++[x]);rw[v0]at y7;show ⟨{st.tr.set t (c++[x]),st.left,st.came+1},_,_,e1,9,ag.updN (sm.trans s6) bd,jf M eg (by unfold aU;rw[bc,if_pos ab];show hs),y7,by rw[af bt.symm];show s6 _ _ hL,LD a2,by show st.came+1<=_;omega,Yd.mW hs hsz⟩
   ·rw[lj]at bo
    show {_,9,.inr {r,_,0,_,9,9,b9.of B,9,.inl {9,_,9,?_}}};rw[Fm];show cT (by rw[ab];decide +kernel) ?_;show aO (ac s6 ?_);unfold aU;rw[bc,if_pos ab];show Yd.step tr b st (6,t)=8;unfold Yd.step;rw[if_pos 9,Jk.mpr ()]
  ·have a4:gx=rd "out":=y.resolve_left ab
   show cT ab (aO ?_);show {_,9,.inr {r,_,0,_,9,9,b9.of B,9,.inl {9,_,9,?_}}};rw[Fm];show fb a4 ?_;show {_,9,_,9,.inr {r,_,1,_,9,9,b9.of B,9,.inl {kA,_,_,.ref l,9,9,ak.of y6.lst,aq aA,?_}}};show {Jd _,λeL b0=>.inr {dI c,dI [],.ints (ak.of (aj bm b0)),.ints (ak.of aa),aG _ _,aG _ _,_,9,?_}};have sE:=s6.trans (ag.upd (o:=.lst []) b0);have yE:=ap.same sE;have a1:=sE _ _ hl;have b1:=sE _ _ an;have a7:aU tr b n st (gx,(t:3))=Yd.step tr b st (5,t):=by
    unfold aU;rw[bc,if_neg ab,if_pos a4];rfl
   show jc (λhc=>?_) (λhc=>?_)
   ·have b4:c≠[]:=λz=>hc (by rw[z])
    have dt:0<c.length:=LY.mpr b4;show {_,9,.inl {9,_,ak.of (sE _ _ hL)},?_};show {_,9,b,9,?_};cases b with
    | true=>
     let(x,ex):∃x,c[c.length-1]?=some x:=⟨_,li ()⟩;show bC {_,9,_,9,.inr {r,_,1,_,9,9,b9.of b1,9,.inl {kA,_,_,.ref l,9,9,ak.of yE.lst,aq aA,.inl {9,_,ak.of a1},.inl {l,_,.int x,9,9,a1,?_,?_}}}}
     ·rw[lj,r6,ex];rfl
     have a8:(upd (upd (upd H5 wA (.lst [.str (rd "in"),.str (rd "out")])) eL (.lst [])) l (.lst ((c.map V.int).dropLast))) lA=!.lst (st.left.map V.int):=by rw[af bt.symm];show sE _ _ hL
     show ⟨lA,_,_,9,9,a8,by rw[lj];show am (),?_⟩;have hs:Yd.step tr 6 st (5,t)=some {st.tr.set t c.dropLast,st.left++[x],st.came}:=by
      unfold Yd.step;rw[if_neg t7,if_pos 9];simp only[eD];rw[Ke,ex]
     have y7:=yE.set el c.dropLast;rw[MI]at y7;show {{st.tr.set t c.dropLast,st.left++[x],st.came},_,_,9,9,ag.updN (ag.updN (sm.trans sE) bd) bn,jf M eg (a7.trans hs),y7.other bA a6,?_,?_,bb,Yd.mW hs hsz}
     ·rw[aa,v0];rfl
     ·rw[sB];show Ld a2
    | false=>
     let(x,c',9):∃x c',c=x::c':=by
      cases c with
      | nil=>show absurd 9 b4
      | cons x c'=>show ⟨x,c',9⟩
     show aO {_,9,_,9,.inr {r,_,1,_,9,9,b9.of b1,9,.inl {kA,_,_,.ref l,9,9,ak.of yE.lst,aq aA,.inl {9,_,ak.of a1},.inr ⟨l,_,0,0,.int x,9,9,a1,by decide,by decide,?_,9,?_⟩}}}
     ·unfold Qq
      simp
     have a8:(upd (upd (upd H5 wA (.lst [.str (rd "in"),.str (rd "out")])) eL (.lst [])) l (.lst (((x::c').map V.int).eraseIdx 0))) lA=!.lst (st.left.map V.int):=by rw[af bt.symm];show sE _ _ hL
     show ⟨lA,_,_,9,9,a8,by rw[lj];show am (),?_⟩;have hs:Yd.step tr 5 st (5,t)=some {st.tr.set t c',st.left++[x],st.came}:=by
      unfold Yd.step;rw[if_neg t7,if_neg t7];simp only[eD]
     show {{st.tr.set t c',st.left++[x],st.came},_,_,9,9,ag.updN (ag.updN (sm.trans sE) bd) bn,jf M eg (a7.trans hs),(yE.set el c').other bA a6,?_,?_,bb,Yd.mW hs hsz}
     ·rw[aa,v0];rfl
     ·rw[sB];show Ld a2
   ·have cd:c=[]:=ll hc
    show ac sE ?_;rw[a7];unfold Yd.step;rw[if_neg t7];simp only[eD,cd]
    split<;>rfl
 ·rintro σ H5 ⟨st,v7,_,rfl,rfl,sm,M,ap,hL,a2,bb,hsz⟩
  rw[lj,cg,KL]at M;show {_,9,kS st M lA H5 sm bn hL}
inductive rg(K:PySem.W.Frag)(vs:7 V)(H:Hp)(Q:VK)(u3:XK):Prop
 | mk (pA:mu) (ps:7 3) (m:3):vs=[.ref pA,.int m]->ak K H pA (ps.map V.int)->Q (.bl (bw m (-1) ps)) H->rg K vs H Q u3
def jq:al ["_law_places", "_law_many", "_law_last", "_law_place"] ["_law_places", "_law_many"] (ah kB):=by o_head AA
def fW(T:Tx K mg Z):fU P w K mg base bu 1 "_law_rising" ["_law_places", "_law_many"] (rg K):=by
 o_head (AB T.bN jq)
 let(pA,ps,m,9,hp,kQ):=h
 o_head (AE jq (j (o 2 (y c)) (j (B (I 0) (U 03) (j (q (C (x (s (u (l 03 (l xq a)))) (x (w (s (u (l 03 (l xo a))))) (G (w (xO cL cL 2 03 1)))))) (k (n e)) d) (k (o 2 03)))) (k (n e)))))
 show {1,9,?_};show {_,9,pA,9,{_,hp},?_}
 let ab:Nat->St->Hp->Prop:=λi σ H5=>H5=H/\bw m (-1) (ps.take i)=6/\∃v3:Option V,σ=[!.ref pA,!.int m,!(.int ((ps.take i).getLast?.getD (-1))),v3]
 show aT (K:=K) (a:=pA) (xs:=ps.map V.int) ab
  {9,9,_,9} (λi σ H5 _ h=>by rw[h.1];show hp) ?_ ?_
 ·rintro i x σ H5 hx ⟨rfl,r,v3,rfl⟩
  let(p,M,9):=aK hx;have z:=pF r M;show {_,9,_,_,_,_,_,9,9,dP,.int p,gY,_,9,aO ?_};show {_,9,_,_,_,_,_,9,9,dP,.int p,ce,_,9,aO ?_};show {_,9,_,9,_,_,9,9,_,9,?_}
  by_cases h1:(ps.take i).getLast?.getD (-1)<p
  rotate_left
  ·rw[decide_eq_false h1]
   show aO {_,9,bC ?_};rw[decide_eq_false h1]at z;rw[z]at kQ;show kQ
  rw[decide_eq_true h1];show bC {_,9,_,_,9,9,_,9,?_}
  by_cases h2:p<m
  rotate_left
  ·rw[decide_eq_false h2]
   show bC ?_;rw[decide_eq_false h2,Bool.and_false,Jw]at z;rw[z]at kQ;show kQ
  rw[decide_eq_true h2];show aO {_,9,9,?_,!.int p,?_}
  ·rw[aP M]
   have:=pF (ps:=ps.take i++[p]) (i:=i) (p:=p) (m:=m) (last:=-1) (by rw[Ni (by rw[Jn];have:=(op.mp M).1;omega),List.take_take,NI];show r)
    (by rw[J8 (by rw[Jn];omega),Jn];have:=(op.mp M).1;rw[Mp (),Ob];rfl)
   rw[this,Ni (by rw[Jn];have:=(op.mp M).1;omega),List.take_take,NI,decide_eq_true h1,decide_eq_true h2];rw[Lg (by rw[sB,Jn];simp only[vl,Jo];omega)];rfl
  ·rw[aP M,Mc]
   rfl
 ·rintro σ H5 ⟨rfl,r,v3,rfl⟩
  rw[lj,KL]at r;rw[r]at kQ;show kQ
end My
namespace L2
open PySem PySem.Spec PyProof.Rows
def oQ:∀(l:7 (xD×Kc)) (n:4) (a:7 (xD×mu)) (x:xD) (c:mu),(KN n l a).lookup x=!c->a.lookup x=!c\/(n<=c/\(x,KD)∈l)
 | [],n,a,x,c,h=>.inl h
 | (y,k)::r,n,a,x,c,h=>by
  unfold KN at h
  split at h
  ·rename_i f
   have d:k=.cell:=by simpa using f
   let z||(e,z2):=oQ r (n+1) _ x c h
   ·rw[bW]at z
    by_cases b:(x==y)=6
    ·rw[if_pos b]at z
     cases z;have:x=y:=by simpa using b
     show .inr ⟨oN _,by rw[this,d];show vr⟩
    ·rw[if_neg b]at z
     show .inl z
   ·show .inr {(),wh _ z2}
  ·let z||(e,z2):=oQ r n _ x c h
   ·show .inl z
   ·show .inr {e,wh _ z2}
def oU:∀(l:7 (xD×Kc)) (n:4) (a:7 (xD×mu)) (x:xD),(x,KD)∉l->(KN n l a).lookup x=a.lookup x
 | [],n,a,x,h=>rfl
 | (y,k)::r,n,a,x,h=>by
  have hr:(x,KD)∉r:=λz=>h (wh _ z);unfold KN
  split
  ·rename_i d
   have b:k=.cell:=by simpa using d
   rw[oU r _ _ x hr,bW,if_neg];intro c;have:x=y:=by simpa using c
   show h (by rw[this,b];show vr)
  ·show oU r _ _ x hr
def vF:∀(l:7 (xD×Kc)) (n:4) (d:7 (xD×mu)),(∀x y c,d.lookup x=!c->d.lookup y=!c->x=y)->(∀x c,d.lookup x=!c->c<n)->∀x y c,(KN n l d).lookup x=!c->(KN n l d).lookup y=!c->x=y
 | [],n,d,hi,j=>hi
 | (z,k)::r,n,d,hi,j=>by
  unfold KN
  split
  ·show vF r (n+1) _ (λx y c f i=>?_) λx c h=>?_
   ·rw[bW]at f i
    by_cases e:(x==z)=6<;>by_cases o:(y==z)=6
    ·have a:x=z:=by simpa using e
     have b:y=z:=by simpa using o
     rw[a,b]
    ·rw[if_pos e]at f
     rw[if_neg o]at i;cases f;show absurd (j y _ i) (Kw _)
    ·rw[if_neg e]at f
     rw[if_pos o]at i;cases i;show absurd (j x _ f) (Kw _)
    ·rw[if_neg e]at f
     rw[if_neg o]at i;show hi x y c f i
   ·rw[bW]at h
    by_cases e:(x==z)=6
    ·rw[if_pos e]at h
     cases h;show JG _
    ·rw[if_neg e]at h
     show Lm (j x c h)
  ·show vF r n d hi j
def sM:∀(l:7 (xD×Kc)) (h:Jz) (a:7 (xD×mu)) (x:xD) (c:mu),(KN h.objs.size l a).lookup x=!c->a.lookup x=!c\/(M9 h l).IsCell c 8
 | [],h,a,x,c,e=>.inl e
 | (y,k)::r,h,a,x,c,e=>by
  unfold KN at e;unfold M9
  split at e
  ·rename_i b
   rw[if_pos b];rw[show h.objs.size+1=(h.push { cls:=.type "cell",data:=.cell 8 }).objs.size from (Jl ..).symm]at e;let z||z:=sM r (h.push { cls:=.type "cell",data:=.cell 8 }) _ x c e
   ·rw[bW]at z
    by_cases d:(x==y)=6
    ·rw[if_pos d]at z
     cases z;show .inr {_,Nl r _ _ _ (y8 _ 9),9}
    ·rw[if_neg d]at z
     show .inl z
   ·show .inr z
  ·rename_i b
   rw[if_neg b];show sM r h a x c e
section
variable {M:Qb} {A:Jq} {E:n5->pe->Prop} {s:pe}
def zB{scope:JT}{globals:mu}{b:7 (xD×mu)}{d:xD}{c:Option mu}{code:n5}{out:N5}{a:mu}{Q:N5->pe->Prop}
  (h:Q (newEnv scope ↑s globals (KN (↑s+1) scope.names b) d c code (!out) a) { s with heap:=M9 (s.heap.push { cls:=.type "dict",data:=.dict #[] }) scope.names }):
  wpAny M A (Mz scope globals b [] d c code (!out) a) Q E s:=by
 simp only[Mz,P2,if_true];show mi (wpAny_alloc ?_);show mi (wpAny_layCells _ (λname kind e=>by cases f:kind==KD<;>simp[f]) _ _ _ _ ?_);rw[show ({ s with heap:=s.heap.push { cls:=.type "dict",data:=.dict #[] } }:pe).heap.objs.size=↑s+1 from Jl ..];simp only[Pd];show mi (ri (ri h))
end
abbrev Dx(X:Cx)(scope:JT)(C:mu):7 (xD×mu):=KN (C+1) scope.names (aI X.env scope.names [])
def cx(X:Cx)(scope:JT)(N':7 xD)(C:mu)(c:pe)(a:Hp)(b:7 mu)(E:n5->pe->Prop):Cx where
 prog:=X.prog
 w:=X.w
 K:=X.K
 mg:=X.mg
 base:=X.base
 A:=X.A
 N:=N'
 s₀:=c
 H₀:=a
 env:=compEnvC scope (Dx X scope C) C X.env
 outer:=X.stack
 stack:=X.stack
 ex:=b
 fn:=λx=>scope.names.lookup x==!.cell
 calm:=X.calm
 pn:=[]
 xe:=E
structure uu(X:Cx)(scope:JT)(N':7 xD)(cap:7 (Option 4)):Prop where
 kind:scope.kind=.function
 cells:∀y∈scope.names,y.2=.cell->scope.names.lookup y.1=!.cell
 frees:∀y∈scope.names,y.2=.free->scope.names.lookup y.1=!.free
 names:∀y∈scope.names,y.2=.local->scope.names.lookup y.1=!.local
 free:∀y∈scope.names,y.2=.free->X.env.kindOf y.1=!.cell\/X.env.kindOf y.1=!.free
 len:cap.length=N'.length
 cap:∀i∈IZ cap.length,∀j∈(cap[i]?).join,N'[i]?=X.N[j]?/\(N'[i]?).isSome=6/\(N'[i]?).bind (λn=>scope.names.lookup n)=!.free
def nR{env:N5}:∀(l:7 (xD×Kc)) (d:7 (xD×mu)) {x:xD} {c:mu},(aI env l d).lookup x=!c->d.lookup x=!c\/(x,JR)∈l
 | [],d,x,c,h=>.inl h
 | (n,k)::r,d,x,c,h=>by
  let z||z:=nR r _ (show (aI env r (if k==.free then (n,(env.cells.lookup n).getD 0)::d else d)).lookup x=some c from h)
  ·by_cases e:(k==JR)=6
   ·rw[if_pos e,bW]at z
    by_cases f:(x==n)=6
    ·have a:x=n:=by simpa using f
     have b:k=.free:=by simpa using e
     show .inr (by rw[a,b];show vr)
    ·rw[if_neg f]at z
     show .inl z
   ·rw[if_neg e]at z
    show .inl z
  ·show .inr (wh _ z)
def vG{env:N5}(l:7 (xD×Kc)){x:xD}{c:mu}(_:True)(h:(aI env l []).lookup x=!c):(x,JR)∈l/\True:=by
 let z||z:=nR l [] h
 ·cases z
 ·show ⟨z,trivial⟩
def rh{env:N5}:∀{l:7 (xD×Kc)} {x:xD},((rS env l).lookup x=!.cell\/(rS env l).lookup x=!.free)->l.lookup x=!.free\/l.lookup x=!.cell
 | [],x,h=>by let h||h:=h<;>cases h
 | (n,k)::r,x,h=>by
  rw[mO]at h;rw[rT]
  by_cases a:(x==n)=6
  ·rw[if_pos a]at h ⊢
   by_cases c:(k==JR&&env.scope.kind==.function&&env.kindOf n==!.cell)=6
   ·have:k=.free:=by
     simp only[Jf]at c
     simpa using c.1.1
    rw[this];show .inl 9
   ·simp only[if_neg c]at h
    show h.symm
  ·rw[if_neg a]at h ⊢
   show rh h
section
variable {X:Cx} {pins:7 (mu×Ky)} {σ:St} {H:Hp} {s:pe}
def ao.cellOfC(I:ao X pins σ H s){scope:JT}{N':7 xD}{cap:7 (Option 4)}(S:uu X scope N' cap):∀y∈scope.names,y.2=.free->∃c,X.env.cells.lookup y.1=!c:=λy a e=>I.ok.has y.1 (S.free y a e)
def ao.clLookC(I:ao X pins σ H s){scope:JT}{N':7 xD}{cap:7 (Option 4)}(S:uu X scope N' cap){x:xD}{c:mu}(e:(aI X.env scope.names []).lookup x=!c):X.env.cells.lookup x=!c:=by
 let h||h:=i7 scope.names [] x c (I.cellOfC S) e
 ·cases h
 ·show h
def ao.celLook(I:ao X pins σ H s){scope:JT}{N':7 xD}{cap:7 (Option 4)}(S:uu X scope N' cap){C:mu}{x:xD}{c:mu}(e:(Dx X scope C).lookup x=!c):X.env.cells.lookup x=!c\/C+1<=c:=by
 let z||z:=oQ _ _ _ x c e
 ·show .inl (I.clLookC S z)
 ·show .inr z.1
def ao.celLt(I:ao X pins σ H s){x:xD}{c:mu}(e:X.env.cells.lookup x=!c):c<↑s:=by
 let(v,o,z,_):=I.cell x c e;show xE z
def Dy{l:7 (xD×Kc)}{x:xD}(n:4)(a:7 (xD×mu))(h:l.lookup x=!.cell):∃c,(KN n l a).lookup x=!c:=LZ.mp (PySem.W.cellsFrom_some l n a (.inl h))
def ao.compOkC(I:ao X pins σ H s){scope:JT}{N':7 xD}{cap:7 (Option 4)}(S:uu X scope N' cap){n:7 mu}{C:mu}{E:n5->pe->Prop}(i:↑s<=C)(t:∀b∈n,cy X pins H b)
  (D:∀b∈n,b<↑s):(cx X scope N' C s H n E).Ok:=by
 have B:∀b∈n,b∉oE X.stack:=λb a z=>by
  let(_,M,O,_):=t b a;let e||e:=Jb.mp (I.stkSub b z)
  ·show M e
  ·show O e
 show {I.ok.mod,S.kind,I.ok.glob,I.ok.blt,i,?_,λx v=>?_,λx c u e=>?_,I.ok.hd,I.ok.frames,.inl 9,λb a=>{?_,λx c e=>?_},λb o e=>I.bs b o e,xM I.ok.bsz I.sz,λb o e a=>?_,B,I.stack,I.stkFree}
 ·show vF _ _ _ (λx y c Q T=>I.ok.inj x y c (I.clLookC S Q) (I.clLookC S T)) λx c e=>Lm (ti (I.celLt (I.clLookC S e)) i)
 ·let q||q:=rh v
  ·have U:(x,KD)∉scope.names:=λz=>by have:=S.cells _ z 9;rw[q]at this;cases this
   let(c,hc):=cB (env:=X.env) scope.names [] x (PySem.mem_of_lookup q);show {c,(oU _ _ _ x U).trans hc}
  ·show Dy _ _ q
 ·have j:(scope.names.lookup x==!KD)=6:=u
  have v:scope.names.lookup x=!.cell:=by simpa using j
  let z||z:=oQ _ _ _ x c e
  ·exfalso
   have:=S.frees _ (vG _ trivial z).1 9;rw[v]at this;cases this
  ·show xM i (MO z.1)
 ·show vu (ti (D b a) i)
 ·let z||z:=I.celLook S e
  ·show (t b a).2.2.2.2.1 x c z
  ·show Kg (ti (D b a) (xM i (MO z)))
 ·let z||z:=(t b a).2.2.2.1
  ·show I.ok.noex b o e z
  ·show absurd (ti (xE e) (xM I.ok.bsz z)) (Kw _)
end
section
variable {X:Cx} {pins:7 (mu×Ky)} {σ:St} {H:Hp} {s:pe}
def ao.compStartC(I:ao X pins σ H s){scope:JT}{N':7 xD}{cap:7 (Option 4)}(S:uu X scope N' cap){fp:7 mu}{D C:mu}{M:Jz}{m:xD->Option n5}{tk:4}{E:n5->pe->Prop}
  (T:↑s<=D) (hC:↑s<=C) (O:D<C) (hf:∀b∈fp,cy X pins H b) (ho:∀b∈fp,b<↑s)
  (k:∀b o,s.heap.get? b=!o->M.get? b=!o) (hd:M.get? D=some { cls:=.type "list",data:=.seq #[] }) (hn:M.Ns C m) (hcs:∀x c,(Dx X scope C).lookup x=!c->(aI X.env scope.names []).lookup x=!c\/M.IsCell c 8):
  ao (cx X scope N' C s H fp E) [] (rV cap σ) (upd H D (.lst [])) { s with heap:=M,toks:=tk }:=by
 have lt:∀b o,s.heap.get? b=!o->b≠D:=λb o e=>vu (ti (xE e) T);show ⟨I.compOkC S hC hf ho,9,I.bare,Un.laid k T (I.hok.fresh T),{m,hn,λi x v e1 e2 e3=>?_},λx c e=>?_,?_,λx c e=>?_,λp hp=>absurd (show p∈([]:7 (mu×Ky)) from hp) (by simp),
  I.hok.laid k T {Jd _,[],_,.nil,hd},by unfold rV;rw[lj];show S.len⟩
 ·
  have a:(cap.map λo=>o.bind λj=>(σ[j]?).join)[i]?=!!v:=e2;rw[r6]at a;cases hc:cap[i]? with
  | none=>rw[hc]at a;cases a
  | some o=>
   rw[hc]at a;have t:(o.bind λj=>(σ[j]?).join)=!v:=vb a;cases o with
   | none=>cases t
   | some j=>
    have U:(σ[j]?).join=!v:=t;have ac:σ[j]?=!!v:=by
     cases q:σ[j]? with
     | none=>rw[q]at U;cases U
     | some w'=>rw[q]at U;rw[show w'=some v from U]
    have hi:i∈IZ cap.length:=J9.mpr (op.mp hc).1;let(a1,_,a3):=S.cap i hi j (by rw[hc];rfl);have ab:N'[i]?=!x:=e1;rw[ab]at a1 a3;have n:scope.names.lookup x=!.free:=a3;have hk:=S.free _ (PySem.mem_of_lookup n) 9;have Q:X.env.kindOf x=!.cell\/X.env.kindOf x=!.free:=hk;let(m0,ap,hl):=I.loc;let(u,ru,lk):=hl j x v a1.symm ac (Q.elim (λz=>.inr (.inl z)) λz=>.inr (.inr z));show {u,ru,?_};let(z,_)||(_,c,ec,y):=lk
    ·let q||q:=Q
     ·rw[z]at q;cases q
     ·rw[z]at q;cases q
    ·let(c',B):=cB (env:=X.env) scope.names [] x (PySem.mem_of_lookup n)
     have:c'=c:=vb ((I.clLookC S B).symm.trans ec);subst this;show .inr ⟨mP (env:=X.env) n,c',(oU _ _ _ x λz=>by have:=S.cells _ z 9;rw[n]at this;cases this).trans B,y.keeps k⟩
 ·let z||z:=hcs x c e
  ·let(v,z):=I.cell x c (I.clLookC S z)
   show {v,z.keeps k}
  ·show {_,z}
 ·show upd H D _ C=8
  rw[af (Kg O)];show I.hok.fresh hC
 ·let z||z:=I.celLook S e
  ·let(v,o,q,_):=I.cell x c z
   rw[af (lt c o q)];show I.freeC x c z
  ·rw[af (Kg (Qm O z))]
   show I.hok.fresh (xM hC (MO z))
def ao.compBackC{scope:JT}{N':7 xD}{j:7 mu}{C:mu}{E:n5->pe->Prop}{a:7 (mu×Ky)}{n:St}{q:Hp}{s':pe}(I:ao X pins σ H s)(i:∀b∈j,cy X pins H b)
  (J:ao (cx X scope N' C s H j E) a n q s'):ao X pins σ q s':=
 I.call' (ch:=j) J.os J.base J.hok J.bare λb e=>{(i b e).2.2.2.1,(i b e).2.1,(i b e).2.2.2.2.1,(i b e).2.2.2.2.2}
def vH{aA tg iter:JF}{aC:7 JF}{scope:JT}{a6:LM}{N':7 xD}{cap:7 (Option 4)}{wi:TI}{g:TG}{a8:TT}{te:TE}{Q:VK}(hc:X.calm=6)(S:uu X scope N' cap)(hi:PI X tg iter wi)
  (hg:∀C a O l,PG (cx X scope N' C a O l λ_ _=>False) tg g) (ht:∀C a O l,rW (cx X scope N' C a O l λ_ _=>False) aC a8)
  (he:∀C a O l,PE (cx X scope N' C a O l λ_ _=>False) aA te) (I:ao X pins σ H s) (h:nH wi cap g a8 te σ H Q):
  wpAny (model X.prog X.w) X.A (eval iter X.env) (λx s1=>wpAny (model X.prog X.w) X.A (PM x) (λit a=>wpAny (model X.prog X.w) X.A (newList []) (λa2 s3=>
   wpAny (model X.prog X.w) X.A (Mz scope X.env.globals (aI X.env scope.names []) [] X.env.qual 8 .none (!X.env)) (λac s4=>
    K0 (model X.prog X.w) X.A (.compStart (.ListComp aA [{tg,iter,aC,0}] scope a6) 0 it a2 { ac with scope:=relabel scope X.env }) (jV X pins σ Q a2 ac.locals) s4) X.xe s3) X.xe a) X.xe s1) X.xe s:=by
 show aJ (hi pins s σ H _ I h) λv s1 h1=>aJ h1 λbT a h2=>?_;let(it,l,tn,J,O,e,I2,T,a0,f2,q):=h2;subst e;have ho:∀b∈l,b<↑a:=λb j=>by
  let(o,e,_):=T.obj _ _ a0 b j;show xE e
 show Kq (zB ?_);have bn:↑a≠(a.heap.push { cls:=.type "list",dict:=8,data:=.seq ([]:7 n5).toArray }).objs.size:=by rw[Jl];show vu (JG _)
 have f:↑a<=(a.heap.push { cls:=.type "list",dict:=8,data:=.seq ([]:7 n5).toArray }).objs.size:=by rw[Jl];show Lc _
 generalize hL:a.heap.push { cls:=.type "list",dict:=8,data:=.seq ([]:7 n5).toArray }=t at bn f ⊢;have bA:t.objs.size=↑a+1:=by rw[<- hL];show Jl ..
 have old:∀b o,a.heap.get? b=!o->(M9 (t.push { cls:=.type "dict",data:=.dict #[] }) scope.names).get? b=!o:=λb o e=>
  Nl _ _ _ _ (pu _ (by rw[<- hL];show pu _ e))
 have an:(M9 (t.push { cls:=.type "dict",data:=.dict #[] }) scope.names).get? ↑a=some { cls:=.type "list",data:=.seq #[] }:=
  Nl _ _ _ _ (pu _ (by rw[<- hL];show y8 _ 9))
 have ap:(M9 (t.push { cls:=.type "dict",data:=.dict #[] }) scope.names).Ns t.objs.size (λ_=>8):=(Heap.Ns.new t (.type "dict")).keeps (Nl _ _);have a4:∀x c,(Dx X scope t.objs.size).lookup x=!c->(aI X.env scope.names []).lookup x=!c\/(M9 (t.push { cls:=.type "dict",data:=.dict #[] }) scope.names).IsCell c 8:=λx c e=>
  sM scope.names (t.push { cls:=.type "dict",data:=.dict #[] }) _ x c (by rw[Jl];show e)
 generalize hp:M9 (t.push { cls:=.type "dict",data:=.dict #[] }) scope.names=a5 at old an ap a4 ⊢;have bo:↑a<t.objs.size:=by rw[bA];show JG _
 let A:Cx:=cx X scope N' t.objs.size a O l λ_ _=>False
 let(W,(m0,w0),bb):=q ↑a (I2.hok.fresh (oN _));have J0:ao A [] (rV cap σ) (upd O ↑a (.lst [])) { a with heap:=a5,toks:=a.toks }:=I2.compStartC S (oN _) f bo f2 ho old an ap a4;have B:∀{M:Hp},(∀b∈l,M b=8)->∀b∈l,cy A [] M b:=λhn b j=>by
  let(_,g1,g2,g3,g4,g5):=f2 b j;show {hn b j,vu (ti (ho b j) f),J0.ok.exfs b j,.inl j,λx c e=>(I2.celLook S e).elim (λz=>g4 x c z) λz=>Kg (ti (ho b j) (xM f (MO z))),λp hp=>absurd (show p∈([]:7 (mu×Ky)) from hp) (by simp)}
 have bd:∀b∈l,upd O ↑a (.lst []) b=8:=λb j=>by rw[af (vu (ho b j))];show (f2 b j).1
 have as:K0 (model X.prog X.w) X.A (.compLoop (.ListComp aA [{tg,iter,aC,0}] scope a6) 0 (.ref it) (.ref ↑a) A.env)
   (jV X pins σ Q (.ref ↑a) t.objs.size) { a with heap:=a5,toks:=a.toks }:=by
  show mQ 9 (λn s'=>∃i D M,ao A [] D M s'/\tn i s'.heap/\(∀b∈l,M b=8)/\W i n D M) ?_ m0 {0,_,_,J0,T.keep _ _ _ a0 λb _ o e=>old b o e,bd,w0};rintro n s3 ⟨i,U,H3,I3,a7,a3,w3⟩;have no:∀(e:n5) (s':pe),A.xe e s'->notedBy (model X.prog X.w) X.A A.env (λe s'=>jV X pins σ Q (.ref ↑a) t.objs.size (.error e) s') e s':=λ_ _ z=>z.elim;let(stop,qn)||(go,N,hN,step):=bb i n U H3 w3
  ·show Jg (T.done A 9 9 9 hc i [] s3 U H3 A.xe I3 (B a3) a7 stop) (λr s4 ⟨hr,I4⟩=>?_) no
   subst hr;let(mC,bt,_):=I4.loc;show {_,H3,mC,9,I2.compBackC f2 I4,I2.fpOk f I4.free,bt,qn}
  ·show Jg (T.item A 9 9 9 hc i [] s3 U H3 A.xe I3 (B a3) a7 go) (λr s4 ⟨u,hr,h4⟩=>?_) no
   subst hr;show Jg h4 (λ_ s5 ⟨x,H5,I5,r5,y5,a1,bm⟩=>?_) no;have bc:=I5.pinned (B bm) (T.obj _ _ a1);show Jg (hg _ _ _ _ _ s5 U H5 x u _ bc r5 (step x H5 y5)) (λ_ s6 ⟨ab,H6,I6,q6⟩=>?_) no;show Jg (ht _ _ _ _ _ s6 ab H6 _ I6 q6) (λok s7 ⟨H7,I7,q7⟩=>?_) no;have again:∀{E:St} {H7:Hp} {s7:pe},ao A ([]++ld l s5.heap) E H7 s7->N E H7->∃m,m<n/\∃i D M,ao A [] D M s7/\tn i s7.heap/\(∀b∈l,M b=8)/\W i m D M:=λ{E H7 s7} I7 n7=>by
    let(m',hm,w7):=hN E H7 n7;show {m',hm,i+1,E,H7,I7.unpinned,T.keep _ _ _ a1 λb j o e=>(I7.pin (b,o) (xC _ (xC _ (bO j e)))).1,λb j=>?_,w7};let(o,e,d):=T.obj _ _ a1 b j;show (I7.pin (b,o) (xC _ (xC _ (bO j e)))).2.1
   cases ok with
   | false=>show again I7 q7
   | true=>
    show Jg (he _ _ _ _ _ s7 ab H7 _ I7 q7) (λy s8 ⟨z,H8,I8,r8,xs,e8,l8,q8⟩=>?_) no;show Jg (jU (X:=A) _ s8 ab H8 (.ref ↑a) [z] (.ref ↑a) [y] (λ_ H9=>N ab H9) I8 9 (.cons r8 .nil) {_,xs,z,9,9,e8,l8,q8}) (λ_ s9 ⟨_,H9,I9,_,q9⟩=>?_) no;show again I9 q9
 show MA as (T.self _ 0 _ _ _ (T.keep _ _ _ a0 λb _ o e=>old b o e) as)
def zC{f t iter:JF}{j:7 JF}{scope:JT}{n:LM}{N':7 xD}{cap:7 (Option 4)}{y:TI}{g:TG}{l:TT}{te:TE}(hc:X.calm=6)(S:uu X scope N' cap)(hi:PI X t iter y)
  (U:∀C a d i,PG (cx X scope N' C a d i λ_ _=>False) t g) (ht:∀C a d i,rW (cx X scope N' C a d i λ_ _=>False) j l)
  (T:∀C a d i,PE (cx X scope N' C a d i λ_ _=>False) f te) (hs:∀x,LB iter X.env x=pure x:=by intro _;rfl):
  PE X (.ListComp f [{t,iter,j,0}] scope n) (nH y cap g l te):=by
 intro pins s σ H Q I h;rw[Ps];show Ll (use:=8) 9 hs (e9 (I.cellOfC S)) S.kind S.names (aJ (vH (Q:=Q) hc S hi U ht T I h) λxv s1 D=>aJ D λit a E=>aJ E λB s3 M=>aJ M λu s4 N=>KC N λr s5 v=>?_);cases r with
 | error e=>show JB v
 | ok fl=>
  let(p,z,m,9,A,c,hn,q):=v;show {m,hn,λh' sb=>{.ref p,z,?_,9,q}};show A.turned (t':=s5.toks) (λb o O e=>sb.extBut b o O e) c.1 c.2.1 c.2.2.2.1 c.2.2.2.2.1 c.2.2.2.2.2
end
end L2
namespace L2
open PySem
structure Hw(sc:JT)(N:7 xD)(scope:JT)(N':7 xD)(cap:7 (Option 4)):Prop where
 kind:scope.kind=.function
 cells:∀y∈scope.names,y.2=.cell->scope.names.lookup y.1=!.cell
 frees:∀y∈scope.names,y.2=.free->scope.names.lookup y.1=!.free
 names:∀y∈scope.names,y.2=.local->scope.names.lookup y.1=!.local
 free:∀y∈scope.names,y.2=.free->sc.names.lookup y.1=!.cell\/sc.names.lookup y.1=!.free
 len:cap.length=N'.length
 cap:∀i∈IZ cap.length,∀j∈IZ N.length,cap[i]?=!!j->N'[i]?=N[j]?/\(N'[i]?).isSome=6/\(N'[i]?).bind (λn=>scope.names.lookup n)=!.free
def Dz{X:Cx}{sc:JT}{N:7 xD}{scope:JT}{N':7 xD}{cap:7 (Option 4)}(hs:X.env.scope=sc)(c:X.N=N)(D:Hw sc N scope N' cap)(hc:(cap.all λo=>o.all λj=>decide (j<N.length))=6:=by rfl):uu X scope N' cap:=by
 subst hs c;show {D.kind,D.cells,D.frees,D.names,D.free,D.len,λi hi j a=>?_};have e:cap[i]?=!!j:=by
  cases q:cap[i]? with
  | none=>rw[q]at a;cases a
  | some o=>
   rw[q]at a;have:o=!j:=a;rw[this]
 have f:(some j:Option 4)∈cap:=xA e;have d:=Le.mp hc _ f;have b:j<X.N.length:=by simpa using d
 show D.cap i hi j (J9.mpr b) e
def Hx(scope scF:JT):JT:={ scope with names:=scope.names.map λ(n,k)=>if (k==JR&&scF.kind==.function&&scF.names.lookup n==!.cell) then (n,KD) else (n,k) }
def FQ{X:Cx}{scope scF a:JT}{N' N2:7 xD}{cap2:7 (Option 4)}{C:mu}{d:pe}{b:Hp}{c:7 mu}{E:n5->pe->Prop}(hs:X.env.scope=scF)(D:GS (Hx scope scF) N' a N2 cap2)
  (hc:(cap2.all λo=>o.all λj=>decide (j<N'.length))=6:=by rfl):wD (cx X scope N' C d b c E) a N2 cap2:=by
 subst hs;show i8 (X:=cx X scope N' C d b c E) (sc:=Hx scope X.env.scope) (N:=N') 9 9 D hc
end L2
namespace Yd
def Iy(f:3->3)(A:7 3):Prop:=∀x∈A,∀y∈A,x<y->f x<f y
end Yd
namespace My
open L2
def BF(T:7 3)(x:3):4:=(T.filter λy=>decide (y<x)).length
def FR{T:7 3}{x y:3}(hx:x∈T)(h:x<y):BF T x<BF T y:=by
 unfold BF
 induction T with
 | nil=>cases hx
 | cons z r b=>
  have mono:(r.filter λu=>decide (u<x)).length<=(r.filter λu=>decide (u<y)).length:=by
   clear b hx
   induction r with
   | nil=>show oN _
   | cons v r b=>
    rw[Na,Na]
    by_cases a:v<x
    ·rw[if_pos (by simpa using a),if_pos (by simpa using (by omega:v<y))]
     simpa using b
    ·rw[if_neg (by simpa using a)]
     split
     ·simp only[vl];omega
     ·show b
  rw[Na,Na];let 9||hx:=Jb.mp hx
  ·rw[if_neg (by simp),if_pos (by simpa using h)]
   simp only[vl];omega
  ·have:=b hx
   by_cases a:z<x
   ·rw[if_pos (by simpa using a),if_pos (by simpa using (by omega:z<y))]
    simp only[vl];omega
   ·rw[if_neg (by simpa using a)]
    split
    ·simp only[vl];omega
    ·show this
def DA{T:7 3}{x:3}(a:x∈T):BF T x<T.length:=by
 unfold BF;have h:(T.filter λy=>decide (y<x)).length<=T.length:=OP _ _;let z||z:=LH (T.filter λy=>decide (y<x)).length T.length
 ·show z
 ·have e:=List.length_filter_eq_length_iff.mp (Nat.le_antisymm h z) x a
  simp at e
def vI{A:7 3}{f:3->3}(h:Yd.Iy f A)(n:A.Nodup):(A.map f).Nodup:=by
 rw[KZ,MJ];show (KZ.mp n).imp_of_mem λb c a e=>?_;let z||z||z:=Int.lt_trichotomy _ _
 ·show absurd (h _ b _ c z) ()
 ·show a z
 ·show absurd (h _ c _ b z) ()
end My
namespace My
open PySem L2
inductive x3  (vs:7 V) (H:Hp) (Q:VK) (u3:XK):Prop
 | mk (a:Bool):vs=[.bl a,.bl a]->Q (.bl 6) H->x3  vs H Q u3
def ma:al ["_law_said", "_law_due"] ["_law_said", "_law_due"] (ah ny):=by o_head AA
def aV(T:Tx K mg Z):fU P w K mg base bu 1 "_law_says" ["_law_said", "_law_due"] x3:=by
 o_head (AB T.bR ma)
 let(a,9,e):=h
 o_head (AE ma (k (n (P (u (l 0 (l xq a))) (Q (xx 0 1))))))
 show {_,9,_,_,_,_,_,9,9,dP,.bl _,ce,_,9,bC ?_};show {_,9,_,9,.inl {9,sw 9 e}}
def Dt(K:PySem.W.Frag)(H:Hp)(xs:7 V):Prop:=∀x∈xs,∃d,DV K H x d/\∀n,kqdOk (n+1) d=6
def Dt.same{H e:Hp}{xs:7 V}(h:Dt K H xs)(s:ag H e):Dt K e xs:=λx i=>let ⟨d,a,b⟩:=h x i;{d,DV.same s a,b}
def Dt.dv{H:Hp}:∀{xs:7 V},Dt K H xs->∃i,nI K H xs i/\(∀d∈i,∀n,kqdOk (n+1) d=6)/\i.length=xs.length
 | [],_=>⟨[],.nil,λd j=>(by cases j),9⟩
 | x::r,h=>by
  let(i,a,b,c):=Dt.dv (xs:=r) λy q=>h y (wh _ q);let(d,e,f):=h x vr;show ⟨d::i,.cons e a,λz s=>?_,by rw[vl,vl,c]⟩;let 9||z':=Jb.mp s
  ·show f
  ·show b z z'
inductive oV(K:PySem.W.Frag)(vs:7 V)(H:Hp)(Q:VK)(u3:XK):Prop
 | mk (sA a:mu) (xs:7 V) (ns:7 3):vs=[.ref sA,.ref a]->H sA=!.lst xs->Dt K H xs->xs.length<=300->ak K H a (ns.map V.int)->ns.length<=63->(∀(l:mu) (H':Hp) (ys:7 V),ag H H'->H l=8->H' l=!.lst ys->(∀y∈ys,y∈xs)->ys.length<=xs.length+63->Q (.ref l) H')->oV K vs H Q u3
def md:al ["_law_some", "_law_script", "_law_made_here", "_law_cell", "_law_at"] ["_law_some", "_law_script"] (ah nB):=by o_head AA
def fD(T:Tx K mg Z):fU P w K mg base bu 1 "_law_bent" ["_law_some", "_law_script"] (oV K):=by
 o_head (AB T.bS md)
 let(sA,a,xs,ns,9,hs,hD,hz,hS,hn,kQ):=h
 o_head (AE md (j (o 2 (xl (l 0 a))) (j (B (I 1) (U 03) (j (o 04 (xu (xv 03 c) (xf (l c (l (t (l 2 a)) a))))) (j (q (xF (xu 03 c) c) (k (o 2 (R (xc 2 i (S 04)) (xc 2 (S (R 04 c)) i)))) d) (j (q (xF (xu 03 c) c) (k (o 2 (R (xc 2 (S 04) i) (xc 2 i (S 04))))) d) (k (q (C (xQ (xF (xu 03 c) c) (xR (xG 2 (z a))))) (k (p (D 2 (l (v 2 04) a)))) d)))))) (k (n 2)))))
 show {_,9,sA,_,9,.inl (ak.of hs),λm hm=>?_}
 let aC:Nat->St->Hp->Prop:=λi σ H2=>∃(mA:mu) (ys:7 V) (v3 v4:Option V),σ=[!.ref sA,!.ref a,!.ref mA,v3,v4]/\ag H H2/\H mA=8/\H2 mA=!.lst ys/\(∀y∈ys,y∈xs)/\ys.length<=xs.length+i
 show ⟨_,9,a,9,{_,(ag.upd hm).seq hS},aT (K:=K) (a:=a) (xs:=ns.map V.int) aC
  ⟨m,xs,_,_,9,ag.upd hm,hm,aa,λy hy=>hy,oN _⟩ (λi σ H2 _ h=>by let(_,_,_,_,_,s,_):=h;show s.seq hS) ?_ ?_⟩
 ·rintro i x σ H2 hx ⟨mA,ys,v3,v4,rfl,s2,ab,hy,r,hl⟩
  let(c,ec,9):=aK hx;have hi:=(op.mp ec).1;let(t,et,ht):∃t:Nat,c/09%(if (ys.length:Int)>1 then (ys.length:Int) else 1)=(t:Int)/\(ys≠[]->t<ys.length):=by
   split
   ·rename_i h1
    have b0:=Lh (c/09) (show (ys.length:3)≠0 by omega);have b1:=KJ (c/09) (show (0:3)<ys.length by omega);show {(c/09%(ys.length:3)).toNat,(),λ_=>()}
   ·show {0,(),λh=>LY.mpr h}
  show {_,9,_,09,9,9,⟨by decide,by decide⟩,_,9,_,_,9,.inl {_,ak.of hy,9},1,_,9,?_};show ⟨_,_,9,9,(by show (0:3)<(if _ then _ else _);split<;>omega),?_⟩
  first | dsimp only | dsimp only[L2.bN.sq,L2.bN.lp] | skip
  rw[et];have a1:=hD.same s2;have M:(0:3)<09:=by decide
  have two:∀(u v x:mu) (as bs:7 V),H2 u=8->upd H2 u (.lst as) v=8->upd (upd H2 u (.lst as)) v (.lst bs) x=8->(∀y∈as,y∈ys)->(∀y∈bs,y∈ys)->as.length+bs.length<=ys.length->∀σ v3 v4,σ=[!.ref sA,!.ref a,!.ref x,v3,v4]->
    ∃(mA:mu) (ys:7 V) (v3 v4:Option V),σ=[!.ref sA,!.ref a,!.ref mA,v3,v4]/\ag H (upd (upd (upd H2 u (.lst as)) v (.lst bs)) x (.lst (as++bs)))/\H mA=8/\upd (upd (upd H2 u (.lst as)) v (.lst bs)) x (.lst (as++bs)) mA=!.lst ys/\(∀y∈ys,y∈xs)/\ys.length<=xs.length+(i+1):=by
   intro u v x as bs hu hv aA ha hb a4 σ v3 v4 e;have s3:=(s2.trans (ag.upd (o:=.lst as) hu)).trans (ag.upd (o:=.lst bs) hv);show ⟨x,as++bs,v3,v4,e,s3.trans (ag.upd aA),s3.free aA,aa,λy ac=>?_,by rw[sB];omega⟩;let z||z:=Jc.mp ac
   ·show r y (ha y z)
   ·show r y (hb y z)
  have zs:ys.length<=400:=()
  by_cases h0:c%09=0
  ·show {_,9,_,09,9,9,M,.inl {9,_,9,fb (by rw[h0]) ?_}}
   show {_,9,_,9,(t:3),9,mA,_,9,ak.of hy,λu hu=>?_};show {_,9,_,9,.inl {_,1,9,9,_,9,mA,_,9,ak.of (aj hy hu),λv hv=>?_}};rw[show (t:3)+1=((t+1:4):3) from 9,lU,cJ] at*;show .inr (.inl {u,v,_,_,9,9,aj aa hv,aa,?_,λx hx=>?_})
   ·rw[Jn,JM]
    show Jh (am ())
   show ⟨_,9,_,09,9,9,M,.inl ⟨9,_,9,cT (λz=>by have:=V.int.inj z;omega) ?_⟩⟩;show ⟨_,9,_,09,9,9,M,.inl ⟨9,_,9,cT (λz=>by have:=V.int.inj z;omega) ?_⟩⟩;show two u v x _ _ hu hv hx (λy=>K8) (λy=>Lz) (by rw[Jn,JM];omega) _ _ _ 9
  show {_,9,_,09,9,9,M,.inl {9,_,9,cT (λz=>h0 (V.int.inj z)) ?_}}
  by_cases h1:c%09=1
  ·show {_,9,_,09,9,9,M,.inl {9,_,9,fb (by rw[h1]) ?_}}
   show {_,9,_,9,(t:3),9,mA,_,9,ak.of hy,λu hu=>?_};show {_,9,_,9,(t:3),9,mA,_,9,ak.of (aj hy hu),λv hv=>?_};rw[lU,cJ] at*;show .inr (.inl {u,v,_,_,9,9,aj aa hv,aa,?_,λx hx=>?_})
   ·rw[Jn,JM]
    show Jh (am ())
   show ⟨_,9,_,09,9,9,M,.inl ⟨9,_,9,cT (λz=>by have:=V.int.inj z;omega) ?_⟩⟩;show two u v x _ _ hu hv hx (λy=>Lz) (λy=>K8) (by rw[Jn,JM];omega) _ _ _ 9
  show {_,9,_,09,9,9,M,.inl {9,_,9,cT (λz=>h1 (V.int.inj z)) ?_}};show {_,9,_,09,9,9,M,.inl {9,_,9,dw (λ_=>?_) λ_=>{mA,ys,_,_,9,s2,ab,hy,r,()}}};let(ds,dv,a0,dl):=Dt.dv (H:=H2) (xs:=ys) λy ac=>a1 y (r y ac);show {_,9,Jd _,λe he=>.inr {.list ds,dI [],.lst (ak.of (aj hy he)) (nI.same (ag.upd he) dv),.ints (ak.of aa),wP λd hd=>a0 d hd _,aG _ _,_,9,?_}};show jc (λa2=>?_) λ_=>{mA,ys,_,_,9,s2.trans (ag.upd he),ab,aj hy he,r,()};have ap:ys≠[]:=λz=>a2 (by rw[z]at dl;rw[KO.mp dl];rfl)
  have an:=aj (o:=.lst []) hy he;let(y,ey):∃y,ys[t]?=some y:=⟨_,li (ht ap)⟩;show ⟨_,9,.inl {9,_,ak.of an},_,9,_,9,.inl ⟨mA,_,(t:3),y,9,9,ak.of an,aq ey,mA,_,_,9,9,an,am (),mA,ys++[y],_,_,9,ag.updN (s2.trans (ag.upd he)) ab,ab,aa,λz a3=>?_,by rw[sB,KS];omega⟩⟩;let q||q:=Jc.mp a3
  ·show r z q
  ·rw[Jj.mp q];show r y (xA ey)
 ·rintro σ H2 ⟨mA,ys,v3,v4,rfl,s2,ab,hy,r,hl⟩
  rw[lj]at hl;show {_,9,kQ mA H2 ys s2 ab hy r ()}
def qr(T:7 3):7 3:=T.map λx=>(BF T x:3)
def BG{T:7 3}(h:T.Nodup):(qr T).Perm (Yd.R T.length):=by
 show (Yd.dB (vI (f:=λx=>(BF T x:3)) (λx a y _ h=>by have:=FR a h;show (BF T x:3)<BF T y;omega) h) (λx a=>?_) ?_).symm
 ·let(y,b,9):=Li.mp a
  show Li.mpr {BF T y,J9.mpr (DA b),9}
 ·rw[Yd.kI,lj]
  show oN _
inductive nS  (vs:7 V) (H:Hp) (Q:VK) (u3:XK):Prop
 | mk (a:mu) (T:7 3):vs=[.ref a]->H a=!.lst (T.map V.int)->T.length<200->(∀(l:mu) (H':Hp),ag H H'->H l=8->H' l=!.lst ((qr T).map V.int)->Q (.ref l) H')->nS  vs H Q u3
def m8:al ["_law_train"] ["_law_train"] (ah cr):=by o_head AA
def dS(T:Tx K mg Z):fU P w K mg base bu 1 "_law_numbered" ["_law_train"] nS:=by
 o_head (AB T.bU m8)
 let(a,e,9,ha,hz,kQ):=h;refine' {_,?hterm,?_}
 case hterm=>
  refine' ax ?q1
  case' q1=>refine' fS ?q2
  case' q2=>refine' zC 9 (Dz (sc:=ah cr) (N:=["_law_train"]) (cap:=[8,!0]) (N':=["_law_wagon", "_law_train"]) 9 9 ⟨9,by decide +kernel,by decide +kernel,by decide +kernel,by decide +kernel,9,by decide +kernel⟩) ?q3 (λ_ _ _ _=>?q4) (λ_ _ _ _=>gW) (λ_ _ _ _=>?q5)
  case q3=>show i9 (K:=K) (by rfl) (pv 0)
  case q4=>show jT (i:=0) (show List.Nodup (["_law_wagon", "_law_train"]:7 xD) from by decide +kernel) (by rfl) (by show QI 9)
  case q5=>
    refine' bP (mR (K:=K) (by rfl)) (by rfl) T.aH wO ?q7
    case' q7=>refine' aD ?q8 cz
    case' q8=>refine' wE 9 (FQ (scF:=ah cr) (N2:=["_law_other", "_law_wagon"]) (cap2:=[8,!0]) 9 ⟨9,by decide +kernel,by decide +kernel,by decide +kernel,9,by decide +kernel⟩) ?q9 (λ_ _ _ _=>?an) (λ_ _ _ _=>?ap) (λ_ _ _ _=>?aA)
    case q9=>show i9 (K:=K) (by rfl) (pv 1)
    case an=>show jT (i:=0) (show List.Nodup (["_law_other", "_law_wagon"]:7 xD) from by decide +kernel) (by rfl) (by show OZ 9)
    case ap=>show CB (cu cL (pv 0) (pv 1) (bH _))
    case aA=>show pv 0
 show {_,9,a,9,{_,ak.of ha},λp hp=>?_}
 let ab:Nat->St->Hp->Prop:=λi σ H1=>(∃v,σ=[v,!.ref a])/\ag H H1/\H1 p=!(.lst (((e.take i).map λx=>(BF e x:3)).map V.int))
 show aW (K:=K) (a:=a) (xs:=e.map V.int) ab
  {{_,9},ag.upd hp,aa} (λi σ H1 _ h=>ak.of (h.2.1 _ _ ha)) ?_ ?_
 ·rintro i x σ H1 hx ⟨⟨v,rfl⟩,C,M⟩
  let(z,ez,9):=aK hx;have hi:=(op.mp ez).1;show {_,9,a,9,{_,ak.of (C _ _ ha)},λp2 B=>?_}
  let ac:Nat->St->Hp->Prop:=λj σ o=>(∃v,σ=[v,!.int z])/\ag H1 o/\o p2=!(.lst (((e.take j).filter λy=>decide (y<z)).map V.int))
  show aW (K:=K) (a:=a) (xs:=e.map V.int) ac
   {{_,9},ag.upd B,aa} (λj σ o _ h=>ak.of (h.2.1 _ _ (C _ _ ha))) ?_ ?_
  ·rintro j y σ o hy ⟨⟨v2,rfl⟩,I,r⟩
   let(u,eu,9):=aK hy;have hj:=(op.mp eu).1;show {_,9,_,9,_,_,9,9,_,9,?_}
   by_cases hc:u<z
   ·show fb hc ?_
    show {_,9,_,r,?_,{_,9},ag.updN I B,?_}
    ·rw[lj]
     have:=OP (λy=>decide (y<z)) (e.take j);rw[Jn]at this;show aw ()
    ·rw[aa,aP eu,NH,v0,List.filter_cons_of_pos (by simpa using hc)]
     rfl
   ·show cT hc {{_,9},I,?_}
    rw[r,aP eu,NH,List.filter_cons_of_neg (by simpa using hc),List.filter_nil,Kb]
  rintro σ o ⟨_,I,r⟩;rw[lj,KL]at r;show {_,_,9,.inl {_,ak.of r,9},?_};show {_,I _ _ M,?_,{_,9},ag.updN (C.trans I) hp,?_}
  ·rw[lj,lj,Jn]
   show aw ()
  ·rw[aa,aP ez,v0,v0,lj]
   rfl
 rintro σ H1 ⟨_,C,M⟩;rw[lj,KL]at M;show kQ p H1 C hp M
inductive me  (vs:7 V) (H:Hp) (Q:VK) (u3:XK):Prop
 | mk (i:_):vs=[.int i]->Q (.bl 6) H->me  vs H Q u3
def mf:al ["value"] ["value"] (ah nv):=by o_head AA
def jr(T:Tx K mg Z):fU P w K mg base bu 1 "is_number" ["value"] me:=by
 o_head (AB T.aU mf)
 let(i,9,q):=h
 o_head (AE mf (k (n (P (u (l 0 (l xo a))) (Q (xd (u (l 0 (l xq a)))))))))
 show {_,9,_,_,_,_,_,9,9,dP,.int i,ce,_,9,bC ?_};show {_,9,_,_,_,_,_,9,9,dP,.int i,gY,_,9,?_};show q
inductive gq(K:PySem.W.Frag)(vs:7 V)(H:Hp)(Q:VK)(u3:XK):Prop
 | mk (a:mu) (ns:7 3):vs=[.ref a]->ak K H a (ns.map V.int)->ns.length<200->(∀H',ag H H'->Q (.bl ((not (decide ns.Nodup)))) H')->gq K vs H Q u3
def gu:al ["wagons", "in_order"] ["wagons"] (ah dL):=by o_head AA
def iC(T:Tx K mg Z):fU P w K mg base bu 1 "has_two_alike" ["wagons"] (gq K):=by
 o_head (AB T.aW gu)
 let(a,ns,9,hS,hz,k):=h
 o_head (AE gu (j (o 1 (xk (l 0 a))) (k (n (xi (l (V dL ["wagons", "in_order"] [none,none] ["less", "greater"] (xX (l 1 (l (xc 1 (S c) i) a))) (N 2 (H (W 0 ["less", "greater"]) (H (W 1 ["less", "greater"]) h))) (xx 0 1)) a))))))
 show {_,9,a,ns,9,hS,hz,λl r hl hp hs=>?_};show {_,9,_,9,_,9,l,_,9,ak.of aa,λq hq=>?_};have an:l≠q:=ae aa hq;have I:dm (r.map V.int) (!1) 8=(r.drop 1).map V.int:=by rw[show (1:3)=((1:4):3) from 9,cJ,O7]
 rw[I];show {l,q,9,{_,ak.of (aj aa hq)},{_,ak.of aa},λp C=>?_};have s0:ag H (upd (upd (upd H l (.lst (r.map V.int))) q (.lst ((r.drop 1).map V.int))) p (.lst [])):=(ag.upd hl).trans ((ag.upd hq).trans (ag.upd C));have M:l≠p:=ae (aj aa hq) C;have ab:q≠p:=ae aa C;have aA:H p=8:=((ag.upd (o:=.lst (r.map V.int)) hl).trans (ag.upd (o:=.lst ((r.drop 1).map V.int)) hq)).free C
 let ac:Nat->St->Hp->Prop:=λi σ B=>(∃a b,σ=[a,b])/\ag H B/\B l=!.lst (r.map V.int)/\B q=!.lst ((r.drop 1).map V.int)/\B p=!.lst (((adj r).take i).map V.bl)
 show jW (K:=K) (xs:=r.map V.int) (ys:=(r.drop 1).map V.int)
  ac
  ⟨{_,_,9},s0,by rw[af M,af an,aa],by rw[af ab,aa],aa⟩ (λi σ B h=>{ak.of h.2.2.1,ak.of h.2.2.2.1}) ?_ ?_
 ·rintro i x y t σ B hx hy ⟨⟨a1,b1,rfl⟩,s2,h1,h2,h3⟩ ht
  let(z,ez,9):=aK hx;let(z',ap,9):=aK hy;show {t,_,9,b9.of aa,9,_,_,9,_,_,9,9,?_};show {_,9,_,9,.inl {9,?_}};have e3:upd B t (.tup [.int z,.int z']) p=!.lst (((adj r).take i).map V.bl):=aj h3 ht;show {_,e3,?_,{_,_,9},?_,?_,?_,?_}
  ·rw[lj]
   have:=wL r;have aC:r.length<200:=by rw[hp.length_eq];show hz
   have:=Jn (i:=i) (l:=adj r);show am ()
  ·intro b o e
   have:b≠p:=ae e aA;rw[af this,aj (s2 b o e) ht]
  ·rw[af M];show aj h1 ht
  ·rw[af ab];show aj h2 ht
  ·rw[aa,AI ez ap,v0,CM]
   rfl
 ·rintro σ B ⟨_,s2,_,_,h3⟩
  show {p,adj r,9,ak.of ?_,?_}
  ·rw[h3,JS]
   rw[wL,lj,lj,JM];show oN _
  ·rw[qK hs,show decide r.Nodup=decide ns.Nodup from decide_eq_decide.mpr hp.nodup_iff]
   show k B s2
inductive gv  (vs:7 V) (H:Hp) (Q:VK) (u3:XK):Prop
 | mk (a:mu) (ns:7 3):vs=[.ref a]->H a=!.lst (ns.map V.int)->ns.length<200->ns.Nodup->(∀p H',ag H H'->H p=8->H' p=!.lst (ns.map V.int)->Q (.ref p) H')->gv  vs H Q u3
def dc:al ["train", "held", "wagon", "wagons"] ["train"] (ah dJ):=by o_head AA
def iD(T:Tx K mg Z):fU P w K mg base bu 03 "checked_train" ["train"] gv:=by
 o_head (AB T.aV dc)
 let(a,ns,9,ha,hz,ac,k):=h;refine' {_,?hterm,?_}
 case hterm=>
  have c:=dc;refine' ai ?q1 ?q2
  case q1=>
   refine' cb ?q3 ?q4 a9
   case q3=>o_head (w (s (u (l 0 (l xp a)))))
   case q4=>
    refine' ax ?ap
    case ap=>show o0
  case' q2=>refine' ai ?aA ?aC
  case aA=>o_head (o 1 (R (z a) 0))
  case aC=>
   refine' ai ?a0 ?a1
   case a0=>
    refine' gS HP 9 ?a2 ?a3 ?a4
    case a2=>o_head (I 1)
    case a3=>o_head (U 2)
    case' a4=>refine' ax ?a5
    case' a5=>refine' cb ?a6 ?a7 a9
    case a6=>o_head (w (s (r (jr T) (l 2 a))))
    case' a7=>refine' ax ?a8
    case a8=>show o0
   case' a1=>refine' ai ?bb ?bc
   case bb=>
    refine' gX (i:=03) dc.nd 9 9 9 (i8 (sc:=ah dJ) (N:=["train", "held", "wagon", "wagons"]) (cap:=[8]) (N':=["wagon"]) 9 9 ⟨ 9,by decide +kernel,by decide +kernel,by decide +kernel,9,by decide +kernel ⟩) ?bd (λ_ _ _ _=>?bm) (λ_ _ _ _=>gW) (λ_ _ _ _=>?bn)
    case bd=>o_head (I 1)
    case bm=>o_head (W 0 ["wagon"])
    case bn=>o_head (xm (l 0 a))
   case' bc=>refine' ai ?bo ?bt
   case bo=>
    refine' cb ?bA ?bT a9
    case bA=>o_head (s (r (iC T) (l 03 a)))
    case' bT=>refine' ax ?b0
    case b0=>show o0
   case bt=>o_head (k (n 03))
 have an:ns.length<=1000:=()
 show {_,9,_,_,_,_,_,9,9,dP,.lst ha,ce,_,9,aO ?_};show {Jd _,λe he=>{_,9,.inr (.inl {e,a,[],ns.map V.int,9,9,aa,aj ha he,?_,λh hh=>?_})}}
 ·rw[Jo,lj,LQ]
  show Jh (am an)
 have sh:ag H (upd (upd H e (.lst [])) h (.lst (ns.map V.int))):=(ag.upd he).trans (ag.upd hh)
 let C:Nat->St->Hp->Prop:=λi σ j=>(∃v,σ=[!.ref a,!.ref h,v,8])/\j=upd (upd H e (.lst [])) h (.lst (ns.map V.int))
 show ⟨_,9,h,9,{_,ak.of aa},aT (K:=K) (a:=h) (xs:=ns.map V.int) C
  {{_,9},9} (λi σ j _ ⟨_,z⟩=>by rw[z];show ak.of aa) ?_ ?_⟩
 ·rintro i x σ j hx ⟨⟨v,rfl⟩,rfl⟩
  let(z,_,9):=aK hx;show {_,9,z,9,_,9,aO ?_};show {{_,9},9}
 rintro σ j ⟨⟨v,rfl⟩,rfl⟩;show {_,9,h,9,{_,ak.of aa},λp hp=>?_};have ab:h≠p:=ae aa hp;have B:H p=8:=sh.free hp
 let M:Nat->St->Hp->Prop:=λi σ j=>(∃v,σ=[v])/\ag H j/\j h=!.lst (ns.map V.int)/\j p=!.lst ((ns.take i).map V.int)
 show aW (K:=K) (a:=h) (xs:=ns.map V.int) M
  {{_,9},sh.trans (ag.upd hp),aj aa hp,aa} (λi σ j _ h=>ak.of h.2.2.1) ?_ ?_
 ·rintro i x σ j hx ⟨⟨v,rfl⟩,s2,h1,y⟩
  let(z,ez,9):=aK hx;show {_,9,.inl {z,9,_,y,?_,{_,9},?_,?_,?_}}
  ·rw[lj,Jn]
   show am ()
  ·intro b o e
   rw[af (ae e B)];show s2 b o e
  ·rw[af ab];show h1
  ·rw[aa,aP ez,v0]
   rfl
 rintro σ j ⟨_,s2,h1,y⟩;rw[lj,KL]at y;show {_,9,p,ns,9,ak.of y,hz,λH3 s3=>{_,9,?_}};rw[decide_eq_true ac];show aO ?_;show {_,9,k p H3 (s2.trans s3) B (s3 _ _ y)}
def uv(b:Bool)(l:mu)(g:3):7 (xD×V):=[("blind",.bl b),("came",.ref l),("gone_ahead",.int g)]
def zD(b:Bool)(l:mu)(g:3):(uv b l g).lookup ("blind":xD)=!.bl b:=9
def mh(b:Bool)(l:mu)(g:3):(uv b l g).lookup ("came":xD)=!.ref l:=9
def pL(b:Bool)(l:mu)(g:3):(uv b l g).lookup ("gone_ahead":xD)=!.int g:=9
def DB(b:Bool)(l:mu)(g g':3):aZ "gone_ahead" (.int g') (uv b l g)=uv b l g':=9
def DC(b:Bool)(l:mu):aZ "gone_ahead" (.int 0) (aZ "came" (.ref l) (aZ "blind" (.bl b) []))=uv b l 0:=9
def vJ(b:Bool)(l:mu)(g:3):(uv b l g).lookup ("is_empty":xD)=8/\(uv b l g).lookup ("let_in":xD)=8/\(uv b l g).lookup ("let_out":xD)=8/\(uv b l g).lookup ("standing":xD)=8:=⟨9,9,9,9⟩
inductive kL(C:mu)(vs:7 V)(H:Hp)(Q:VK)(u3:XK):Prop
 | mk (p dx:mu) (b:Bool):vs=[.ref p,.bl b]->H p=!.ins C dx []->(∀(l:mu) (H':Hp),H l=8->(∀c o,H c=!o->c≠p->H' c=!o)->H' p=!.ins C dx (uv b l 0)->H' l=!.lst []->Q .non H')->kL C vs H Q u3
def kM:al ["self", "blind"] ["self", "blind"] (ah lI):=by o_head AA
def DD(T:Tx K mg Z):lQ P w K mg base bu 1 "Track" Z.aE ["self", "blind"] (kL Z.aE):=by
 o_head (AD T.b2 T.d1 kM)
 let(p,B,b,9,hp,k):=h
 o_head (AE kM (j (F 0 1) (j (F 0 (z a)) (k (F 0 c)))))
 show ⟨_,9,_,9,p,_,B,_,9,hp,T.b3,T.b4,(by show 0<1000;decide),?_⟩;show {Jd _,λl C=>?_};have r:p≠l:=ae aa C;have y:H l=8:=by rw[af r.symm]at C;show C
 show ⟨_,9,p,_,B,_,9,by rw[af r,aa],T.b3,T.b5,(by show 1<1000;decide),?_⟩;show ⟨_,9,p,_,B,_,9,aa,T.b3,T.b7,(by show 2<1000;decide),?_⟩;rw[DC];show k l _ y (λc o e hc=>?_) aa ?_
 ·rw[af hc,af hc,af (ae e y),af hc]
  show e
 ·rw[af r.symm,af r.symm,aa]
def fF(C:mu)(b:Bool)(H:Hp)(p l:mu)(c:7 3)(g:4):Prop:=(∃a,H p=!(.ins C a (uv b l (g:3))))/\H l=!.lst (c.map V.int)
inductive nT(C:mu)(vs:7 V)(H:Hp)(Q:VK)(u3:XK):Prop
 | mk (p l:mu) (b:Bool) (c:7 3) (g:4):vs=[.ref p]->fF C b H p l c g->Q (.bl (decide (g=c.length))) H->nT C vs H Q u3
def fG:al ["self"] ["self"] (ah f8):=by o_head AA
def vK(T:Tx K mg Z):cM P w K mg base bu 1 Z.aE "is_empty" ["self"] (nT Z.aE):=by
 o_head (AC T.b3 T.d2 fG)
 let(p,l,b,c,g,9,((e,j),o),q):=h
 o_head (AE fG (k (n (xx (m 0) (t (l (m 0) a))))))
 show {_,9,p,_,e,_,_,9,j,T.b3,T.b7,pL _ _ _,_,9,p,_,e,_,_,9,j,T.b3,T.b5,mh _ _ _,_,_,9,.inl {_,ak.of o,9},.inl {9,?_}};rw[CM,lj,show decide ((g:3)=(c.length:3))=decide (g=c.length) from decide_eq_decide.mpr ()];show q
inductive rj(C:mu)(vs:7 V)(H:Hp)(Q:VK)(u3:XK):Prop
 | mk (p l:mu) (b:Bool) (c:7 3) (g:4) (x:3):vs=[.ref p,.int x]->fF C b H p l c g->c.length<=1000->Q .non (upd H l (.lst ((c++[x]).map V.int)))->rj C vs H Q u3
def iE:al ["self", "wagon"] ["self", "wagon"] (ah iU):=by o_head AA
def BH(T:Tx K mg Z):cM P w K mg base bu 1 Z.aE "let_in" ["self", "wagon"] (rj Z.aE):=by
 o_head (AC T.b3 T.d3 iE)
 let(p,l,b,c,g,x,9,((j,o),e),r,q):=h
 o_head (AE iE (k (p (D (m 0) (l 1 a)))))
 show ⟨_,9,p,_,j,_,_,9,o,T.b3,T.b5,mh _ _ _,.inl {9,_,ak.of e},_,9,l,_,_,9,9,e,by rw[lj];show am r,?_⟩;rw[v0]at q;show q
inductive pM(C:mu)(vs:7 V)(H:Hp)(Q:VK)(u3:XK):Prop
 | mk (p l:mu) (b:Bool) (c:7 3) (g:4) (x:3):vs=[.ref p]->fF C b H p l c g->((b=6/\c[c.length-1]?=!x/\Q (.int x) (upd H l (.lst (c.dropLast.map V.int))))\/(b=5/\c[g]?=!x/\∀dx,H p=!(.ins C dx (uv b l (g:3)))->Q (.int x) (upd H p (.ins C dx (uv b l ((g+1:4):3))))))->pM C vs H Q u3
def gw:al ["self", "wagon"] ["self"] (ah iq):=by o_head AA
def zE(T:Tx K mg Z):cM P w K mg base bu 1 Z.aE "let_out" ["self"] (pM Z.aE):=by
 o_head (AC T.b3 T.d4 gw)
 let(p,l,b,c,g,x,9,((e,j),r),I):=h;refine' {_,?hterm,?_}
 case hterm=>
  have c:=gw;refine' ai ?M ?q2
  case M=>o_head (q (s (m 0)) (k (n (xS (m 0)))) d)
  case' q2=>refine' ai ?q9 ?z
  case q9=>o_head (o 1 (v (m 0) (m 0)))
  case z=>
   refine' ai ?B ?C
   case B=>show lg (K:=K) (by rfl) (pv 0) fR va
   case C=>o_head (k (n 1))
 show {_,9,p,_,e,_,_,9,j,T.b3,T.b4,zD _ _ _,_,9,?_};let(9,y,q)||(9,y,q):=I
 ·show bC {_,9,p,_,e,_,_,9,j,T.b3,T.b5,mh _ _ _,.inl {9,_,ak.of r},.inl {l,_,.int x,9,9,r,?_,?_}}
  ·rw[lj,r6,y]
   rfl
  ·rw[MI]at q
   show q
 ·show aO {_,9,p,_,e,_,_,9,j,T.b3,T.b5,mh _ _ _,_,9,p,_,e,_,_,9,j,T.b3,T.b7,pL _ _ _,.inl {l,_,g,.int x,9,9,ak.of r,aq ?_,?_}}
  ·rw[r6,y]
   rfl
  show ⟨_,9,p,_,e,_,_,9,j,T.b3,T.b7,pL _ _ _,g,1,9,9,e,_,j,(by show 03<1000;decide),_,9,?_⟩;rw[DB];show q e j
inductive fX(C:mu)(vs:7 V)(H:Hp)(Q:VK)(u3:XK):Prop
 | mk (a:mu) (i:3):vs=[.ref a,.int i]->H a=!XO a C 8->i.natAbs.log2<1920->(∀d,H d=8->d≠a->Q .non (upd (upd H a (XO a C (!d))) d (.xd [("at",.int i)])))->fX C vs H Q u3
def kO:al ["self", "at"] ["self", "at"] (ah lH):=by o_head AA
def x4(T:Tx K mg Z):Fv P w K mg base 1 "Stuck" Z.aD ["self", "at"] (fX Z.aD):=by
 show CT T.b1 T.d0 λf fd F=>F.ok kO (λvs H Q E h=>?_) (λcdv A outer s H vs Q E hr h=>?_)
 ·let(a,i,9,_):=h
  rfl
 ·let(a,i,9,e,hi,k):=h
  have l:Ev K Z.aD=6:=by
   let(_,_,_,m,_):=T.d0.ex;show m.x
  refine' {_,?hterm,?_}
  case hterm=>
   have c:=kO;refine' ai ?n ?o
   case n=>
    refine' oG ?p
    case' p=>refine' sf (K:=K) (by rfl) 9 T.bZ T.fH ?q
    case q=>
     refine' aD (pv 0) ?r
     case r=>
      refine' aD ?t cz
      case t=>show CN (pv 1) (by decide) (by decide)
   case' o=>refine' ax ?u
   case u=>show yV (K:=K) (by rfl) (pv 0) (pv 1) 9
  show {_,9,_,9,_,9,hi,λy=>{a,_,_,9,l,e,?_}};show {_,9,_,9,a,_,9,e,T.fA,T.fE,λd j b=>?_};show k d j b
structure Tk where
 p:mu
 l:mu
 c:7 3
 g:4
def Tk.st(k:Tk):7 3:=k.c.drop k.g
def tf(e:mu)(b:Bool)(c:3)(d a:mu):7 (xD×V):=[("wagons",.ref e),("blind",.bl b),("come",.int c),("left",.ref d),("tracks",.ref a)]
def pN(a:mu)(b:Bool)(c:3)(e d:mu):(tf a b c e d).lookup ("wagons":xD)=!.ref a:=9
def zF(e:mu)(b:Bool)(c:3)(d a:mu):(tf e b c d a).lookup ("blind":xD)=!.bl b:=9
def pO(e:mu)(b:Bool)(c:3)(d a:mu):(tf e b c d a).lookup ("come":xD)=!.int c:=9
def uw(e:mu)(b:Bool)(c:3)(a d:mu):(tf e b c a d).lookup ("left":xD)=!.ref a:=9
def de(e:mu)(b:Bool)(c:3)(d a:mu):(tf e b c d a).lookup ("tracks":xD)=!.ref a:=9
def DE(e:mu)(b:Bool)(c c':3)(d a:mu):aZ "come" (.int c') (tf e b c d a)=tf e b c' d a:=9
def DF(d:mu)(b:Bool)(c a:mu):aZ "tracks" (.ref a) (aZ "left" (.ref c) (aZ "come" (.int 0) (aZ "blind" (.bl b) (aZ "wagons" (.ref d) []))))=tf d b 0 c a:=9
def vL(e:mu)(b:Bool)(c:3)(d a:mu):(tf e b c d a).lookup ("carry_in":xD)=8/\(tf e b c d a).lookup ("carry_away":xD)=8/\(tf e b c d a).lookup ("carry_out":xD)=8/\(tf e b c d a).lookup ("standing_on":xD)=8:=⟨9,9,9,9⟩
structure Yk(Z:Adr)(b:Bool)(H0 H:Hp)(y wA lA dA:mu)(T:7 3)(n:4)(st:Yd.St)(tk:4->Option Tk)(m:4):Prop where
 ins:∃dy,H y=!(.ins Z.aF dy (tf wA b (st.came:3) lA dA))
 wag:H0 wA=!.lst (T.map V.int)
 wl:wA≠lA
 wy:wA≠y
 wd:wA≠dA
 y0:∃o,H0 y=!o
 l0:∃o,H0 lA=!o
 d0:∃o,H0 dA=!o
 left:H lA=!.lst (st.left.map V.int)
 dct:∃kvs:7 (im×V),H dA=!.dK kvs/\kvs.length<=m/\∀j:4,eE kvs (L7 (j:3))=(tk j).map λk=>V.ref k.p
 at_:∀(j:4) (k:Tk),tk j=!k->fF Z.aE b H k.p k.l k.c k.g/\k.g<=k.c.length/\(b=6->k.g=0)/\k.c.length<=st.came/\H0 k.p=8/\H0 k.l=8
 apart:∀(i j:4) (k k':Tk),tk i=!k->tk j=!k'->i≠j->k.p≠k'.p/\k.l≠k'.l
 oth:∀a o,H0 a=!o->a≠y->a≠lA->a≠dA->H a=!o
 len:st.tr.length=n
 tr:∀j,j<n->st.tr.getD j []=((tk j).map Tk.st).getD []
 cl:st.came<=T.length
 lm:st.left.length<=m
section
variable {b:Bool} {H0 H:Hp} {y wA lA dA:mu} {T:7 3} {n m:4} {st:Yd.St} {tk:4->Option Tk}
def fF.same{H a:Hp}{C:mu}(s:ag H a){p l:mu}{c:7 3}{g:4}(h:fF C b H p l c g):fF C b a p l c g:=let ⟨⟨e,i⟩,j⟩:=h;{{e,s _ _ i},s _ _ j}
def Yk.y_l(h:Yk Z b H0 H y wA lA dA T n st tk m):y≠lA:=let ⟨_,e⟩:=h.ins;bh e h.left λz=>by cases z
def Yk.y_d(h:Yk Z b H0 H y wA lA dA T n st tk m):y≠dA:=let ⟨_,e⟩:=h.ins;let ⟨_,f,_⟩:=h.dct;bh e f λz=>by cases z
def Yk.l_d(h:Yk Z b H0 H y wA lA dA T n st tk m):lA≠dA:=let ⟨_,f,_⟩:=h.dct;bh h.left f λz=>by cases z
def Yk.wagH(h:Yk Z b H0 H y wA lA dA T n st tk m):H wA=!.lst (T.map V.int):=h.oth _ _ h.wag h.wy h.wl h.wd
def Yk.k_y(h:Yk Z b H0 H y wA lA dA T n st tk m){j:4}{k:Tk}(e:tk j=!k):k.p≠y/\k.p≠lA/\k.p≠dA/\k.l≠y/\k.l≠lA/\k.l≠dA:=by
 let(_,_,_,_,a,i):=h.at_ j k e;let(_,q):=h.y0;let(_,s):=h.l0;let(_,t):=h.d0;show {(ae q a).symm,(ae s a).symm,(ae t a).symm,(ae q i).symm,(ae s i).symm,(ae t i).symm}
def Yk.p_l(h:Yk Z b H0 H y wA lA dA T n st tk m){i j:4}{k k':Tk}(hi:tk i=!k)(q:tk j=!k'):k.p≠k'.l:=by
 let(((_,a),_),_):=h.at_ i k hi;let((_,e),_):=h.at_ j k' q;show bh a e λz=>by cases z
def Yk.mono(h:Yk Z b H0 H y wA lA dA T n st tk m){j:4}(e:m<=j):Yk Z b H0 H y wA lA dA T n st tk j:=
 ⟨h.ins,h.wag,h.wl,h.wy,h.wd,h.y0,h.l0,h.d0,h.left,let ⟨i,a,c,d⟩:=h.dct;{i,a,xM c e,d},h.at_,h.apart,h.oth,h.len,h.tr,h.cl,xM h.lm e⟩
def Yk.same(h:Yk Z b H0 H y wA lA dA T n st tk m){q:Hp}(s:ag H q):Yk Z b H0 q y wA lA dA T n st tk m:=
 ⟨let ⟨t,e⟩:=h.ins;⟨t,s _ _ e⟩,h.wag,h.wl,h.wy,h.wd,h.y0,h.l0,h.d0,s _ _ h.left,let ⟨i,a,c,d⟩:=h.dct;⟨i,s _ _ a,c,d⟩,λj k e=>let ⟨a,r⟩:=h.at_ j k e;{a.same s,r},h.apart,λa o e u v z=>s _ _ (h.oth a o e u v z),h.len,h.tr,h.cl,h.lm⟩
def vM(tk:4->Option Tk)(j:4)(k:Tk):4->Option Tk:=λi=>if i=j then some k else tk i
def df{j:4}{k:Tk}:vM tk j k j=!k:=if_pos 9
def kb{i j:4}{k:Tk}(h:i≠j):vM tk j k i=tk i:=if_neg h
def cN{i j:4}{k k':Tk}(h:vM tk j k i=!k'):(i=j/\k'=k)\/(i≠j/\tk i=!k'):=by
 unfold vM at h
 split at h
 ·rename_i e;show .inl {e,(vb h).symm}
 ·rename_i e;show .inr ⟨e,h⟩
def Yk.opened(h:Yk Z b H0 H y wA lA dA T n st tk m){j:4}(hj:tk j=8){x dx l:mu}{H1:Hp}(I:H x=8)(E:H l=8)(ab:l≠x)(s1:ag H H1)(e1:H1 x=!.ins Z.aE dx (uv b l 0))(e2:H1 l=!.lst [])
  {s:7 (im×V)} (U:H dA=!.dK s) (hk:s.length<=m) (hv:∀j:4,eE s (L7 (j:3))=(tk j).map λk=>V.ref k.p):
  Yk Z b H0 (upd H1 dA (.dK (kg s (L7 (j:3)) (.ref x)))) y wA lA dA T n st (vM tk j {x,l,[],0}) (m+1):=by
 have D:=h.same s1;have f0:∀a,H a=8->H0 a=8:=λa t=>by
  cases q:H0 a with
  | none=>rfl
  | some o=>
   exfalso
   by_cases B:a=y
   ·let(_,e):=h.ins;rw[B,e]at t;cases t
   ·by_cases C:a=lA
    ·rw[C,h.left]at t;cases t
    ·by_cases u:a=dA
     ·rw[u,U]at t;cases t
     ·rw[h.oth a o q B C u]at t;cases t
 have Q:x≠dA:=(ae U I).symm;have O:l≠dA:=(ae U E).symm;show {?_,h.wag,h.wl,h.wy,h.wd,h.y0,h.l0,h.d0,?_,{_,aa,?_,λi=>?_},λi k e=>?_,λi i' k k' e e' ne=>?_,λa o e B C u=>?_,h.len,λi hi=>?_,h.cl,LD h.lm}
 ·let(dy,e):=D.ins
  show ⟨dy,by rw[af h.y_d];show e⟩
 ·rw[af h.l_d];show D.left
 ·rw[Bm _ (by rw[hv,hj];rfl),sB]
  show Ld hk
 ·rw[Bl]
  by_cases c:i=j
  ·subst c
   rw[if_pos 9,df];rfl
  ·rw[if_neg (λz=>c (by have:=Sum.inl.inj z;omega)),kb c]
   show hv i
 ·let(9,9)||(_,e):=cN e
  ·show ⟨⟨⟨dx,by rw[af Q];show e1⟩,by rw[af O];show e2⟩,oN _,λ_=>rfl,Jd _,f0 x I,f0 l E⟩
  ·let(((M,v),z2),r):=D.at_ i k e
   have ky:=h.k_y e;show ⟨⟨⟨M,by rw[af ky.2.2.1];show v⟩,by rw[af ky.2.2.2.2.2];show z2⟩,r⟩
 ·let(9,9)||(_,e3):=cN e<;>let(9,9)||(_,e4):=cN e'
  ·show absurd 9 ne
  ·let(((M,v),z2),_):=h.at_ i' k' e4
   show {(ae v I).symm,(ae z2 E).symm}
  ·let(((M,v),z2),_):=h.at_ i k e3
   show {ae v I,ae z2 E}
  ·show h.apart i i' k k' e3 e4 ne
 ·rw[af u]
  show D.oth a o e B C u
 ·by_cases c:i=j
  ·subst c
   rw[df,h.tr i hi,hj];rfl
  ·rw[kb c]
   show h.tr i hi
def ux{a:7 (7 3)}{j i:4}{c:7 3}(d:j<a.length):(a.set j c).getD i []=if i=j then c else a.getD i []:=by
 rw[oa,oa,MF]
 by_cases e:j=i
 ·subst e
  rw[if_pos 9,if_pos 9,if_pos d];rfl
 ·rw[if_neg e,if_neg (JP e)]
def Yk.came(h:Yk Z b H0 H y wA lA dA T n st tk m){j:4}{k:Tk}(e:tk j=!k)(hj:j<n){x:3}(hx:T[st.came]?=!x){Q:mu}:
  Yk Z b H0 (upd (upd H k.l (.lst ((k.c++[x]).map V.int))) y (.ins Z.aF Q (tf wA b ((st.came+1:4):3) lA dA))) y wA lA dA T n {st.tr.set j (st.tr.getD j []++[x]),st.left,st.came+1} (vM tk j { k with c:=k.c++[x] }) m:=by
 have v:=h.k_y e;let(((dx,k1),k2),k3,k4,k5,k6,U):=h.at_ j k e;show ⟨⟨Q,aa⟩,h.wag,h.wl,h.wy,h.wd,h.y0,h.l0,h.d0,?_,?_,λi k' s=>?_,λi E a M z z' t=>?_,λa o q O c2 c3=>?_,by rw[Kd];show h.len,λi hi=>?_,(op.mp hx).1,h.lm⟩
 ·rw[af h.y_l.symm,af v.2.2.2.2.1.symm];show h.left
 ·let(I,D,d2,d3):=h.dct
  show ⟨I,by rw[af h.y_d.symm,af v.2.2.2.2.2.symm];show D,d2,λi=>?_⟩;rw[d3]
  by_cases c:i=j
  ·subst c;rw[df,e];rfl
  ·rw[kb c]
 ·let(9,9)||(t,s):=cN s
  ·show ⟨⟨⟨dx,by rw[af v.1,af (h.p_l e e)];show k1⟩,by rw[af v.2.2.2.1,aa]⟩,?_,k4,?_,k6,U⟩
   ·show k.g<=(k.c++[x]).length
    rw[sB];omega
   ·show (k.c++[x]).length<=st.came+1
    rw[sB];show Ld k5
  ·let(((D,z1),z2),B,C,z5,r):=h.at_ i k' s
   have u:=h.k_y s;show ⟨⟨⟨D,by rw[af u.1,af (h.p_l s e)];show z1⟩,by rw[af u.2.2.2.1,af (h.apart i j k' k s e t).2];show z2⟩,B,C,LD z5,r⟩
 ·let(9,9)||(_,B):=cN z<;>let(9,9)||(_,C):=cN z'
  ·show absurd 9 t
  ·show h.apart i E k M e C t
  ·show h.apart i E a k B e t
  ·show h.apart i E a M B C t
 ·rw[af O,af (ae q U)]
  show h.oth a o q O c2 c3
 ·show (st.tr.set j _).getD i []=_
  rw[ux (by rw[h.len];show hj)]
  by_cases c:i=j
  ·subst c
   rw[if_pos 9,df,h.tr i hi,e];show k.st++[x]=Tk.st { k with c:=k.c++[x] };unfold Tk.st;rw[List.drop_append_of_le_length k3]
  ·rw[if_neg c,kb c]
   show h.tr i hi
def Yk.went(h:Yk Z b H0 H y wA lA dA T n st tk m){j:4}{k k':Tk}(e:tk j=!k)(hj:j<n){x:3}{H1:Hp}(v:k'.p=k.p)(D:k'.l=k.l)(t1:fF Z.aE b H1 k'.p k'.l k'.c k'.g)(g1:k'.g<=k'.c.length)(g2:b=6->k'.g=0)(g3:k'.c.length<=k.c.length)
  (C:∀a o,H a=!o->a≠k.p->a≠k.l->H1 a=!o) {tr':7 3} (ht:k'.st=tr'):
  Yk Z b H0 (upd H1 lA (.lst ((st.left++[x]).map V.int))) y wA lA dA T n {st.tr.set j tr',st.left++[x],st.came} (vM tk j k') (m+1):=by
 have t:=h.k_y e;let(_,_,_,k5,k6,k7):=h.at_ j k e;show ⟨?_,h.wag,h.wl,h.wy,h.wd,h.y0,h.l0,h.d0,aa,?_,λi a s=>?_,λi I a Q z z' u=>?_,λa o q c1 c2 c3=>?_,by rw[Kd];show h.len,λi hi=>?_,h.cl,by rw[sB];show Ld h.lm⟩
 ·let(dy,z):=h.ins
  show ⟨dy,by rw[af h.y_l];show C _ _ z t.1.symm t.2.2.2.1.symm⟩
 ·let(M,E,d2,d3):=h.dct
  show ⟨M,by rw[af h.l_d.symm];show C _ _ E t.2.2.1.symm t.2.2.2.2.2.symm,LD d2,λi=>?_⟩;rw[d3]
  by_cases c:i=j
  ·subst c;rw[df,e];show some (V.ref k.p)=!V.ref k'.p;rw[v]
  ·rw[kb c]
 ·let(9,9)||(u,s):=cN s
  ·let((dx,O),z2):=t1
   show ⟨⟨⟨dx,by rw[af (by rw[v];show t.2.1)];show O⟩,by rw[af (by rw[D];show t.2.2.2.2.1)];show z2⟩,g1,g2,xM g3 k5,by rw[v];show k6,by rw[D];show k7⟩
  ·let(((E,O),z2),r):=h.at_ i a s
   have B:=h.k_y s;have U:=h.apart i j a k s e u;show ⟨⟨⟨E,by rw[af B.2.1];show C _ _ O U.1 (h.p_l s e)⟩,by rw[af B.2.2.2.2.1];show C _ _ z2 (h.p_l e s).symm U.2⟩,r⟩
 ·let(9,9)||(_,z3):=cN z<;>let(9,9)||(_,z4):=cN z'
  ·show absurd 9 u
  ·rw[v,D];show h.apart i I k Q e z4 u
  ·rw[v,D];show h.apart i I a k z3 e u
  ·show h.apart i I a Q z3 z4 u
 ·rw[af c2]
  show C _ _ (h.oth a o q c1 c2 c3) (ae q k6) (ae q k7)
 ·show (st.tr.set j _).getD i []=_
  rw[ux (by rw[h.len];show hj)]
  by_cases c:i=j
  ·subst c
   rw[if_pos 9,df];show ht.symm
  ·rw[if_neg c,kb c]
   show h.tr i hi
end
inductive mj(Z:Adr)(vs:7 V)(H:Hp)(Q:VK)(u3:XK):Prop
 | mk (p dx wA:mu) (b:Bool) (T:7 3):vs=[.ref p,.ref wA,.bl b]->H p=!.ins Z.aF dx []->H wA=!.lst (T.map V.int)->(∀(lA dA:mu) (H':Hp),H lA=8->H dA=8->(∀c o,H c=!o->c≠p->H' c=!o)->H' lA=!.lst []->H' dA=!.dK []->H' p=!.ins Z.aF dx (tf wA b 0 lA dA)->Q .non H')->mj Z vs H Q u3
def ml:al ["self", "wagons", "blind"] ["self", "wagons", "blind"] (ah nw):=by o_head AA
def FS(T:Tx K mg Z):lQ P w K mg base bu 1 "Yard" Z.aF ["self", "wagons", "blind"] (mj Z):=by
 o_head (AD T.b8 T.d5 ml)
 let(p,y,wA,b,tr,9,hp,hw,k):=h;refine' {_,?hterm,?_}
 case hterm=>
  have c:=ml;refine' ai ?q1 ?q2
  case q1=>o_head (F 0 1)
  case' q2=>refine' ai ?q3 ?q4
  case q3=>o_head (F 0 2)
  case' q4=>refine' ai ?q5 ?q6
  case q5=>o_head (F 0 c)
  case' q6=>refine' ai ?q7 ?q8
  case q7=>o_head (F 0 (z a))
  case' q8=>refine' ax ?ab
  case' ab=>refine' wK (K:=K) (by rfl) (pv 0) ?ac 9
  case ac=>show Bq
 show ⟨_,9,_,9,p,_,y,_,9,hp,T.cA,T.cF,(by show 0<1000;decide),?_⟩;show ⟨_,9,_,9,p,_,y,_,9,aa,T.cA,T.cB,(by show 1<1000;decide),?_⟩;show ⟨_,9,p,_,y,_,9,aa,T.cA,T.cC,(by show 2<1000;decide),?_⟩;show {Jd _,λl hl=>?_};have j:p≠l:=ae aa hl;have C:H l=8:=by rw[af j.symm,af j.symm,af j.symm]at hl;show hl
 show ⟨_,9,p,_,y,_,9,by rw[af j,aa],T.cA,T.cD,(by show 03<1000;decide),?_⟩;intro d I;have r:p≠d:=ae aa I;have M:l≠d:=λz=>by rw[<- z,af j.symm,aa]at I;cases I
 have B:H d=8:=by rw[af r.symm,af M.symm,af r.symm,af r.symm,af r.symm]at I;show I
 show ⟨_,9,p,_,y,_,9,by rw[af r,aa],T.cA,T.cE,(by show 04<1000;decide),?_⟩;rw[DF];show k l d _ C B (λc o e hc=>?_) ?_ ?_ aa
 ·rw[af hc,af (ae e B),af hc,af (ae e C),af hc,af hc,af hc]
  show e
 ·rw[af j.symm,af M,af j.symm,aa]
 ·rw[af r.symm,aa]
def Yk.fresh{b:Bool}{H:Hp}{y s q t D:mu}{T:7 3}{n:4}(u:H y=!.ins Z.aF D (tf s b 0 q t))(v:H s=!.lst (T.map V.int))(E:H q=!.lst [])(B:H t=!.dK [])(C:s≠q):
  Yk Z b H H y s q t T n (Yd.init n) (λ_=>8) 0:=
 ⟨⟨D,u⟩,v,C,bh v u (λz=>by cases z),bh v B (λz=>by cases z),{_,u},{_,E},{_,B},E,{[],B,oN _,λ_=>rfl},λj k e=>(by cases e),λi j k k' e=>(by cases e),λa o e _ _ _=>e,zg,λj I=>(by
  show (ra n ([]:7 3)).getD j []=[];rw[oa,JV]
  split<;>rfl),Jd _,oN _⟩
inductive pP(Z:Adr)(wW:Bool)(vs:7 V)(H:Hp)(Q:VK)(E:XK):Prop
 | mk (b:Bool) (H0:Hp) (y wA lA dA:mu) (T:7 3) (n:4) (st:Yd.St) (tk:4->Option Tk) (m i j:4):vs=[.ref y,.int i,.int j]->Yk Z b H0 H y wA lA dA T n st tk m->j<n->m<=1900->i<=1900->T.length<=200->(∀st',Yd.step T b st (wW,j)=!st'->∀H' tk',Yk Z b H0 H' y wA lA dA T n st' tk' (m+1)->Q .non H')->(Yd.step T b st (wW,j)=8->∀d H',ag H H'->H d=8->H' d=!.xd [("at",.int i)]->E (.ref Z.aD) (!d) H')->pP Z wW vs H Q E
def lB {E:XK} {D:bN} {σ:St} {H:Hp} {i k:4} (l:σ[k]?=!!.int i) (hi:i<=1900) (n:∀d f,ag H f->H d=8->f d=!.xd [("at",.int i)]->E (.ref Z.aD) (!d) f):
  vm Z.aD (fX Z.aD) E (eZ (gi k) n9) D σ H:=by
 show ⟨_,l,(by show 1<=1000;decide),λa h=>{a,i,9,aa,?_,λd j b=>⟨9,!d,by rw[af b.symm,aa],?_⟩}⟩
 ·rw[Int.natAbs_natCast]
  show ND (Nat.log2_le_self i) ()
 ·rw[af b]at j
  show n d _ (λc o e=>?_) j (by rw[jb b,aa]);rw[jb (ae e h),af (ae e j),af (ae e h),af (ae e h)];show e
def zG{o:Option V}{A:Prop}{R:Hp->Prop}{H:Hp}(G:Hp->Prop)(all:∀a,G a->R a)(b:o=8->(∀a,G a->R a)->A)(c:o≠8->G H):if ((not o.isSome))=6 then A else R H:=by
 cases o with
 | none=>show bC (b 9 all)
 | some v=>show aO (all H (c (by intro z;cases z)))
def mm{H:Hp}{a:mu}{b:7 (im×V)}{j:4}{o:Option V}(h:H a=!.dK b)(e:eE b (L7 (j:3))=o):sC H a (.int (j:3)) o:=by
 rw[<- e];show sC.k (k:=L7 (j:3)) h
def gy:al ["self", "at", "place"] ["self", "at", "place"] (ah ir):=by o_head AA
def vN(T:Tx K mg Z):cM P w K mg base (lV P w) 03 Z.aF "carry_in" ["self", "at", "place"] (pP Z 6):=by
 show oJ T.cA T.d7 λf fd F=>F.okE gy (λvs H Q E h=>?_) (λcdv A outer s H vs Q E hr h=>?_)
 ·let(b,H0,y,wA,lA,dA,tr,n,st,tk,m,i,j,9,_):=h
  rfl
 ·let(b,H0,y,wA,lA,dA,tr,n,st,tk,m,i,j,9,hY,hj,hm,hi,hT,kQ,kE):=h
  refine' {_,?hterm,?_}
  case hterm=>
   have c:=gy;refine' ai ?q1 ?q2
   case q1=>
    refine' cb ?q3 ?q4 a9
    case q3=>o_head (xF (m 0) (t (l (m 0) a)))
    case' q4=>refine' ax ?q9
    case' q9=>refine' qM (x4 T) (hr.mono (by decide)) 9 eC ?a2
    case a2=>o_head (l 1 a)
   case' q2=>refine' ai ?a3 ?a4
   case a3=>
    refine' cb ?a5 ?a6 a9
    case a5=>
     refine' zS ?a7
     case' a7=>refine' qX (wB hr) (pv 2) ?a8
     case a8=>o_head (m 0)
    case' a6=>refine' ax ?bb
    case' bb=>refine' Dd (wB hr) ?bc (pv 2) ?bd 9
    case bc=>o_head (m 0)
    case bd=>o_head (O (DD T) (l (m 0) a))
   case' a4=>refine' ai ?bm ?bn
   case bm=>o_head (p (L (ya (m 0) 2) (BH T) (l (v (m 0) (m 0)) a)))
   case' bn=>refine' ax ?bo
   case bo=>show lg (K:=K) (by rfl) (pv 0) fR va
  have hw:=hY.wagH;let(dy,hy):=hY.ins;show {_,9,y,_,dy,_,_,9,hy,T.cA,T.cC,pO _ _ _ _ _,_,9,y,_,dy,_,_,9,hy,T.cA,T.cF,pN _ _ _ _ _,_,_,9,.inl {_,ak.of hw,9},.inl {9,_,9,?_}};rw[CM]
  by_cases hc:(st.came:3)=((tr.map V.int).length:3)
  ·show fb hc (lB (D:={ nx:=λ_ _=>False,rt:=Q }) (k:=1) 9 hi (kE ?_))
   unfold Yd.step;rw[if_pos 9,Jk.mpr (by rw[lj]at hc;omega)]
  ·show cT hc ?_
   rw[lj]at hc;have a0:st.came<tr.length:=by have:=hY.cl;omega
   let(x,ex):∃x,tr[st.came]?=some x:=⟨_,li a0⟩;have hs:Yd.step tr b st (6,j)=some {st.tr.set j (st.tr.getD j []++[x]),st.left,st.came+1}:=by
    unfold Yd.step;rw[if_pos 9,ex]
   let(bT,hd,hk,hv):=hY.dct;show {_,9,_,9,y,_,dy,_,_,9,hy,T.cA,T.cE,de _ _ _ _ _,dA,_,9,mm hd (hv j),_,9,?_};show zG (λH'=>∃ab k,Yk Z b H0 H' y wA lA dA tr n st ab (m+1)/\ab j=!k) ?_ ?_ ?_
   ·rintro H1 ⟨ab,k,C,e1⟩
    let(B,I):=C.ins;let(bt,ap,_,a1):=C.dct;let(((dx,z1),z2),z3,z4,z5,z6,z7):=C.at_ j k e1;show ⟨_,9,y,_,B,_,_,9,I,T.cA,T.cE,de _ _ _ _ _,_,9,dA,_,9,mm ap (by rw[a1,e1];rfl),?_⟩;show {k.p,dx,_,9,z1,(vJ _ _ _).2.1,?_};show ⟨_,9,y,_,B,_,_,9,I,T.cA,T.cF,pN _ _ _ _ _,_,9,y,_,B,_,_,9,I,T.cA,T.cC,pO _ _ _ _ _,.inl ⟨wA,_,(st.came:3),.int x,9,9,ak.of C.wagH,aq (by rw[r6,ex];rfl),?_⟩⟩;show {k.p,k.l,b,k.c,k.g,x,9,{⟨dx,z1⟩,z2},(),?_};have an:upd H1 k.l (.lst ((k.c++[x]).map V.int)) y=!(.ins Z.aF B (tf wA b (st.came:3) lA dA)):=by rw[af (C.k_y e1).2.2.2.1.symm];show I
    show ⟨_,9,y,_,B,_,_,9,an,T.cA,T.cC,pO _ _ _ _ _,(st.came:3),1,9,9,B,_,an,(by show 05<1000;decide),?_⟩;rw[DE];show kQ _ hs _ _ (C.came e1 hj ex)
   ·intro ho all
    have M:tk j=8:=by
     cases q:tk j with
     | none=>rfl
     | some k=>rw[q]at ho;cases ho
    show {_,9,y,_,dy,_,_,9,hy,T.cA,T.cB,zF _ _ _ _ _,λx' dx hx aA bA=>{x',dx,b,9,aa,λl H4 r k1 k2 k3=>{9,?_}}};have s4:ag H H4:=λc o e=>k1 c o (by rw[af (ae e hx),af (ae e aA)];show e) (ae e hx);have ac:l≠x':=λz=>by rw[z,aa]at r;cases r
    have aC:H l=8:=by
     rw[af ac]at r;have:l≠dx:=λz=>by rw[z,aa]at r;cases r
     rw[af this]at r;show r
    show {_,9,y,_,dy,_,_,9,s4 _ _ hy,T.cA,T.cE,de _ _ _ _ _,_,9,dA,_,9,Bo.k (k:=L7 (j:3)) (s4 _ _ hd) (aw ()),?_};show all _ {_,_,hY.opened M hx aC ac s4 k2 k3 hd hk hv,df}
   ·intro ho
    cases q:tk j with
    | none=>rw[q]at ho;show absurd 9 ho
    | some k=>show ⟨tk,k,hY.mono (Lc _),q⟩
def ff:al ["self", "at", "place"] ["self", "at", "place"] (ah fo):=by o_head AA
def sN(T:Tx K mg Z):cM P w K mg base (lV P w) 03 Z.aF "carry_away" ["self", "at", "place"] (pP Z 5):=by
 show oJ T.cA T.d8 λf fd F=>F.okE ff (λvs H Q E h=>?_) (λcdv A outer s H vs Q E hr h=>?_)
 ·let(b,H0,y,wA,lA,dA,tr,n,st,tk,m,i,j,9,_):=h
  rfl
 ·let(b,H0,y,wA,lA,dA,tr,n,st,tk,m,i,j,9,B,hj,hm,hi,hT,kQ,kE):=h
  refine' {_,?hterm,?_}
  case hterm=>
   have c:=ff;refine' ai ?q1 ?q2
   case q1=>
    refine' cb ?q3 ?q4 a9
    case q3=>
     refine' PW.pt ?q5
     case' q5=>refine' oZ ?q6 ?q7
     case q6=>
      refine' zS ?q8
      case' q8=>refine' qX (wB hr) (pv 2) ?q9
      case q9=>o_head (m 0)
     case q7=>o_head (G (s (M (ya (m 0) 2) (vK T))))
    case' q4=>refine' ax ?ap
    case' ap=>refine' qM (x4 T) (hr.mono (by decide)) 9 eC ?aA
    case aA=>o_head (l 1 a)
   case q2=>o_head (k (p (D (m 0) (l (M (ya (m 0) 2) (zE T)) a))))
  let(dy,hy):=B.ins;let(a0,hd,hk,hv):=B.dct;have r:=B.tr j hj;show {_,9,_,9,y,_,dy,_,_,9,hy,T.cA,T.cE,de _ _ _ _ _,dA,_,9,mm hd (hv j),_,9,?_};have C:st.tr.getD j []=[]->Yd.step tr b st (5,j)=8:=λe=>by
   unfold Yd.step;rw[if_neg t7];show (if b=6 then _ else _)=_;simp only[e]
   split<;>rfl
  cases e:tk j with
  | none=>
   show bC (lB (D:={ nx:=λ_ _=>False,rt:=Q }) (k:=1) 9 hi (kE (C ?_)));rw[r,e];rfl
  | some k=>
   rw[e]at r;have r:st.tr.getD j []=k.st:=r;let(((dx,z1),z2),z3,z4,z5,z6,z7):=B.at_ j k e;have ky:=B.k_y e;show aO ?_;show ⟨_,9,y,_,dy,_,_,9,hy,T.cA,T.cE,de _ _ _ _ _,_,9,dA,_,9,mm hd (by rw[hv,e];rfl),?_⟩;show {k.p,dx,_,9,z1,(vJ _ _ _).1,k.p,k.l,b,k.c,k.g,9,{⟨dx,z1⟩,z2},_,9,?_}
   by_cases hc:k.g=k.c.length
   ·show fb hc (lB (D:={ nx:=λ_ _=>False,rt:=Q }) (k:=1) 9 hi (kE (C ?_)))
    rw[r];unfold Tk.st;rw[hc,List.drop_length]
   ·show cT hc ?_
    have I:k.g<k.c.length:=()
    have aC:=B.lm;show {_,9,y,_,dy,_,_,9,hy,T.cA,T.cD,uw _ _ _ _ _,.inl {9,_,ak.of B.left},?_};show ⟨_,9,y,_,dy,_,_,9,hy,T.cA,T.cE,de _ _ _ _ _,_,9,dA,_,9,mm hd (by rw[hv,e];rfl),?_⟩;show {k.p,dx,_,9,z1,(vJ _ _ _).2.2.1,?_};cases b with
    | true=>
     have an:=z4 9;let(x,ex):∃x,k.c[k.c.length-1]?=some x:=⟨_,li ()⟩;show {k.p,k.l,6,k.c,k.g,x,9,{⟨dx,z1⟩,z2},.inl {9,ex,?_}};have ac:upd H k.l (.lst (k.c.dropLast.map V.int)) lA=!.lst (st.left.map V.int):=by rw[af ky.2.2.2.2.1.symm];show B.left
     show ⟨lA,_,_,9,9,ac,by rw[lj];show aw (),?_⟩;have hs:Yd.step tr 6 st (5,j)=some {st.tr.set j k.c.dropLast,st.left++[x],st.came}:=by
      unfold Yd.step;rw[if_neg t7,if_pos 9];have e0:st.tr.getD j []=k.c:=by rw[r];unfold Tk.st;rw[an,Qt]
      simp only[e0];rw[Ke,ex]
     have:=B.went (k':={ k with c:=k.c.dropLast }) (x:=x) (tr':=k.c.dropLast) (H1:=upd H k.l (.lst (k.c.dropLast.map V.int))) e hj 9 9
      ⟨⟨dx,by rw[af (B.p_l e e)];show z1⟩,aa⟩ (by show k.g<=_;rw[an];show Jd _) z4 (by rw[L8];omega) (λa o q _ c2=>by rw[af c2];show q) (by unfold Tk.st;show k.c.dropLast.drop k.g=_;rw[an,Qt])
     rw[v0]at this;show kQ _ hs _ _ this
    | false=>
     let(x,ex):∃x,k.c[k.g]?=some x:=⟨_,li I⟩;show {k.p,k.l,5,k.c,k.g,x,9,{⟨dx,z1⟩,z2},.inr {9,ex,λab _=>?_}};have ac:upd H k.p (.ins Z.aE ab (uv 5 k.l ((k.g+1:4):3))) lA=!.lst (st.left.map V.int):=by rw[af ky.2.1.symm];show B.left
     show ⟨lA,_,_,9,9,ac,by rw[lj];show aw (),?_⟩;have hs:Yd.step tr 5 st (5,j)=some {st.tr.set j (k.c.drop (k.g+1)),st.left++[x],st.came}:=by
      unfold Yd.step;rw[if_neg t7,if_neg t7];have e0:st.tr.getD j []=x::k.c.drop (k.g+1):=by
       rw[r];unfold Tk.st;rw[K3 I];rw[li I]at ex;rw[vb ex]
      simp only[e0]
     have:=B.went (k':={ k with g:=k.g+1 }) (x:=x) (tr':=k.c.drop (k.g+1)) (H1:=upd H k.p (.ins Z.aE ab (uv 5 k.l ((k.g+1:4):3)))) e hj 9 9
      ⟨⟨ab,aa⟩,by rw[af (B.p_l e e).symm];show z2⟩ I (λz=>by cases z) (oN _) (λa o q c1 _=>by rw[af c1];show q) 9
     rw[v0]at this;show kQ _ hs _ _ this
inductive mn(Z:Adr)(vs:7 V)(H:Hp)(Q:VK)(E:XK):Prop
 | mk (b:Bool) (y wA lA dA sA dy:mu) (T:7 3) (n:4) (ms:7 Yd.Mv):vs=[.ref y,.ref sA]->H y=!.ins Z.aF dy (tf wA b 0 lA dA)->H wA=!.lst (T.map V.int)->H lA=!.lst []->H dA=!.dK []->wA≠lA->sA≠lA->cw H sA ms->ms.length<=1000->(∀m∈ms,m.2<n)->T.length<=200->(∀st,Yd.steps T b (Yd.init n) ms=!st->∀H' tk m,m<=ms.length->Yk Z b H H' y wA lA dA T n st tk m->Q .non H')->(∀(i:4) st m,Yd.steps T b (Yd.init n) (ms.take i)=!st->ms[i]?=!m->Yd.step T b st m=8->∀d H',(∀a o,H a=!o->a≠y->a≠lA->a≠dA->H' a=!o)->(∀a,H' a=8->H a=8)->H d=8->H' d=!.xd [("at",.int i)]->E (.ref Z.aD) (!d) H')->mn Z vs H Q E
def fH:al ["self", "steps", "at", "step"] ["self", "steps"] (ah gb):=by o_head AA
def uy(T:Tx K mg Z):cM P w K mg base (lV P w) 04 Z.aF "carry_out" ["self", "steps"] (mn Z):=by
 show oJ T.cA T.d6 λf fd F=>F.okE fH (λvs H Q E h=>?_) (λcdv A outer s H vs Q E hr h=>?_)
 ·let(b,y,wA,lA,dA,sA,dy,tr,n,ms,9,_):=h
  rfl
 ·let(b,y,wA,lA,dA,sA,dy,tr,n,ms,9,h1,h2,h3,h4,bm,bc,(rs,ab,a3),hz,a7,hT,kQ,kE):=h
  refine' {_,?hterm,?_}
  case hterm=>
   have c:=fH;refine' ax ?q1
   case' q1=>refine' gS PassesOwn.leaving 9 ?q2 ?q3 ?q4
   case q2=>o_head (xW (l 1 a))
   case q3=>o_head (N 2 (H (U 2) (H (U 03) h)))
   case' q4=>refine' ax ?bn
   case' bn=>refine' cb ?bo ?bt ?bA
   case bo=>o_head (xF (v 03 c) f)
   case bt=>
    refine' ax ?bT
    case' bT=>refine' oG ?b0
    case' b0=>refine' qY (pv 0) (vN T) (hr.mono (by decide)) ?b1 (wN λ_ _ _ z=>z)
    case b1=>o_head (l 2 (l (v 03 c) a))
   case' bA=>refine' ax ?b2
   case' b2=>refine' oG ?b3
   case' b3=>refine' qY (pv 0) (sN T) (hr.mono (by decide)) ?b4 (wN λ_ _ _ z=>z)
   case b4=>o_head (l 2 (l (v 03 c) a))
  have bd:sA≠y:=bh ab h1 λz=>by cases z
  have bb:sA≠dA:=bh ab h4 λz=>by cases z
  show {_,9,sA,9,{_,ak.of ab},?_}
  let a5:Nat->St->Hp->Prop:=λi σ B=>∃v1 v2 st tk m,σ=[!.ref y,!.ref sA,v1,v2]/\m<=i/\Yd.steps tr b (Yd.init n) (ms.take i)=!st/\Yk Z b H B y wA lA dA tr n st tk m
  show tO (K:=K) (a:=sA) (xs:=rs.map V.ref) a5 ?_ (λi σ B _ h=>?_) ?_ ?_
  ·show {8,8,Yd.init n,λ_=>8,0,9,oN _,9,Yk.fresh h1 h2 h3 h4 bm}
  ·let(_,_,st,tk,m,_,_,_,hY):=h
   show ak.of (hY.oth _ _ ab bd bc bb)
  ·rintro i x t σ B hx ⟨v1,v2,st,tk,m,rfl,hm,p,hY⟩ ht
   let(r,er,9):=aK hx;let(mv,em,M):=Paired.get a3 er;have an:=a7 mv (xA em);have hi:i<ms.length:=(op.mp em).1;have a8:B r=!(.tup [.str (sg mv.1),.int (mv.2:3)]):=by
    show hY.oth _ _ M ?_ ?_ ?_
    ·show bh M h1 λz=>by cases z
    ·show bh M h3 λz=>by cases z
    ·show bh M h4 λz=>by cases z
   have s5:ag B (upd B t (.tup [.int i,.ref r])):=ag.upd ht;have j:=hY.same s5;let(a2,aC):=j.ins;have aA:=s5 _ _ a8;show {t,_,9,b9.of aa,9,_,_,9,_,_,9,9,?_};show {_,9,.inr {r,_,0,_,9,9,b9.of aA,9,.inl {9,_,9,?_}}};have C:Yd.step tr b st mv=8->∀d H',ag (upd B t (.tup [.int i,.ref r])) H'->upd B t (.tup [.int i,.ref r]) d=8->H' d=!.xd [("at",.int i)]->E (.ref Z.aD) (!d) H':=by
    intro hs d H' sH hd a6;have ac:∀a,upd B t (.tup [.int i,.ref r]) a=8->H a=8:=λa I=>by
     cases q:H a with
     | none=>rfl
     | some o=>
      exfalso
      by_cases c1:a=y
      ·rw[c1,aC]at I;cases I
      ·by_cases c2:a=lA
       ·rw[c2,j.left]at I;cases I
       ·by_cases c3:a=dA
        ·let(_,e,_):=j.dct;rw[c3,e]at I;cases I
        ·rw[j.oth a o q c1 c2 c3]at I;cases I
    show kE i st mv p em hs d H' (λa o q c1 c2 c3=>sH _ _ (j.oth a o q c1 c2 c3)) (λa I=>ac a (sH.free I)) (ac d hd) a6
   let(m1,m2):=mv;cases m1 with
   | true=>
    show fb 9 ?_;show {_,9,y,a2,_,9,aC,(vL _ _ _ _ _).1,_,9,_,9,.inr {r,_,1,_,9,9,b9.of aA,9,?_}};show {b,H,y,wA,lA,dA,tr,n,st,tk,m,i,m2,9,j,an,(),(),hT,λa0 hs H' a1 ap=>?_,C};show {_,_,a0,a1,m+1,9,Ld hm,pq p em hs,ap}
   | false=>
    show cT (show ¬ V.str (rd "out")=V.str (rd "in") from by decide +kernel) ?_;show {_,9,y,a2,_,9,aC,(vL _ _ _ _ _).2.1,_,9,_,9,.inr {r,_,1,_,9,9,b9.of aA,9,?_}};show {b,H,y,wA,lA,dA,tr,n,st,tk,m,i,m2,9,j,an,(),(),hT,λa0 hs H' a1 ap=>?_,C};show {_,_,a0,a1,m+1,9,Ld hm,pq p em hs,ap}
  ·rintro σ B ⟨v1,v2,st,tk,m,rfl,hm,p,hY⟩
   have a4:(rs.map V.ref).length=ms.length:=by rw[lj];show Paired.length a3
   rw[a4,KL]at p;rw[a4]at hm;show kQ st p B tk m hm hY
namespace G
open PySem L2
def F5(x:xD):Prop:=x=rd "in"\/x=rd "out"
def DG(n:3)(g:Gm):Prop:=F5 g.1/\0<=g.2/\g.2<n
def l9(x:xD):E4 (.str x) [.str (rd "in"),.str (rd "out")]=6↔F5 x:=by
 unfold E4 F5;simp only[NB,List.any_nil,Px];show ((rd "in"==x)||(rd "out"==x))=6↔_;rw[Bool.or_eq_true,beq_iff_eq,beq_iff_eq];show {λh=>h.imp Eq.symm Eq.symm,λh=>h.imp Eq.symm Eq.symm}
def zH(t:xD):Txt.join ("":xD) [t]=t:=by
 show Builtin.Str.glued _ _=t;rw[StrLaws.glued_eq_join];rfl
def FT{n:4}{g:Gm}(h:DG n g):∃m:Yd.Mv,g=za m/\m.2<n:=by
 let(x,t):=g;let(b,c,a):=h;have e:(t.toNat:3)=t:=No c;have a:t<n:=a;let z||z:=b
 ·show ⟨(6,t.toNat),QE z e.symm,by show t.toNat<n;omega⟩
 ·show ⟨(5,t.toNat),QE z e.symm,by show t.toNat<n;omega⟩
def x5{n:4}:∀{gs:7 Gm},(∀g∈gs,DG n g)->Iw n gs
 | [],_=>⟨[],9,λm a=>by cases a⟩
 | g::r,h=>by
  let(ms,e,a):=x5 (gs:=r) λx b=>h x (wh _ b);let(m,c,d):=FT (h g vr);show ⟨m::ms,by rw[c,e];rfl,λx b=>?_⟩;let 9||z:=Jb.mp b
  ·show d
  ·show a x z
def FU{n:4}{g:Gm}{m:Yd.Mv}(h:sY n g=!m):DG n g:=by
 unfold sY at h
 split at h
 ·rename_i hr
  show {?_,hr}
  split at h
  ·show .inl ‹_›
  ·split at h
   ·show .inr ‹_›
   ·cases h
 ·cases h
def rk{T:7 3}{b:Bool}{n:4}:∀{s s':Yd.St} {gs:7 Gm},aM T b n s gs=!s'->∀g∈gs,DG n g
 | s,s',[],_,g,d=>by cases d
 | s,s',a::r,h,g,d=>by
  have c:(aU T b n s a).bind (λf=>aM T b n f r)=!s':=h;cases e:aU T b n s a with
  | none=>rw[e]at c;cases c
  | some j=>
   rw[e]at c;let 9||z:=Jb.mp d
   ·unfold aU at e
    cases i:sY n g with
    | none=>rw[i]at e;cases e
    | some m=>show FU i
   ·show rk c g z
def goB(T:7 3)(b:Bool)(n:4)(gs:7 Gm)(W:7 3):Bool:=match aM T b n (Yd.init n) gs with
 | some st=>decide (st.left=W)
 | none=>5
inductive uz(Z:Adr)(vs:7 V)(H:Hp)(Q:VK)(E:XK):Prop
 | mk (t n:3):vs=[.int t,.int n]->(0<=t/\t<n->Q (.int t) H)->(¬ (0<=t/\t<n)->E (.ref Z.aC) 8 H)->uz Z vs H Q E
def gB:al ["track", "many", "place"] ["track", "many"] (ah io):=by o_head AA
def ot(T:Tx K mg Z):fU P w K mg base (lV P w) 2 "checked_track" ["track", "many"] (uz Z):=by
 show pp T.a0 λf fd F=>F.okE gB (λvs H Q E h=>?_) (λcdv A outer s H vs Q E hr h=>?_)
 ·let(t,n,9,_):=h
  rfl
 ·let(t,n,9,q,e):=h
  refine' {_,?hterm,?_}
  case hterm=>
   have c:=gB;refine' ai ?q1 ?q2
   case q1=>
    refine' cb ?q3 ?q4 a9
    case q3=>o_head (w (s (r (jr T) (l 0 a))))
    case' q4=>refine' ax ?q8
    case' q8=>refine' c9 (k:=0) T.fC (hr.mono (by decide)) T.b0 9 eC ?q9
    case q9=>o_head (l f a)
   case' q2=>refine' ai ?j ?p
   case j=>o_head (o 2 (xm (l 0 a)))
   case' p=>refine' ai ?y ?z
   case y=>
    refine' cb ?B ?I a9
    case B=>o_head (C (x (xH 2 c) (G (xL 2 1))))
    case' I=>refine' ax ?M
    case' M=>refine' c9 (k:=0) T.fC (hr.mono (by decide)) T.b0 9 eC ?ab
    case ab=>o_head (l f a)
   case z=>o_head (k (n 2))
  show {_,9,t,9,_,9,aO ?_};show {_,9,.inl {t,9,?_}};show {_,9,t,0,9,9,_,9,?_}
  by_cases h1:t<0
  ·rw[decide_eq_true h1]
   show bC ⟨(by show 1<=1000;decide),e ()⟩
  rw[decide_eq_false h1];show aO {_,9,_,9,t,n,9,9,_,9,?_}
  by_cases h2:n<=t
  ·rw[decide_eq_true h2]
   show bC ⟨(by show 1<=1000;decide),e ()⟩
  rw[decide_eq_false h2];show aO {_,9,q {(),()}}
inductive x6(Z:Adr)(vs:7 V)(H:Hp)(Q:VK)(E:XK):Prop
 | mk (x:xD):vs=[.str x]->x.length<=100->(F5 x->∀H',ag H H'->Q (.str x) H')->(¬ F5 x->∀H',ag H H'->E (.ref Z.aC) 8 H')->x6 Z vs H Q E
def dU:al ["word", "plain"] ["word"] (ah iT):=by o_head AA
def pQ(T:Tx K mg Z):fU P w K mg base (lV P w) 2 "checked_word" ["word"] (x6 Z):=by
 show pp T.aZ λf fd F=>F.okE dU (λvs H Q E h=>?_) (λcdv A outer s H vs Q E hr h=>?_)
 ·let(x,9,_):=h
  rfl
 ·let(x,9,hl,q,e):=h
  refine' {_,?hterm,?_}
  case hterm=>
   have c:=dU;refine' ai ?q1 ?q2
   case q1=>
    refine' cb ?q3 ?q4 a9
    case q3=>o_head (w (s (u (l 0 (l xs a)))))
    case' q4=>refine' ax ?o
    case' o=>refine' c9 (k:=0) T.fC (hr.mono (by decide)) T.b0 9 eC ?p
    case p=>o_head (l f a)
   case' q2=>refine' ai ?r ?y
   case r=>
    refine' mK (i:=1) dU.nd 9 (OZ 9) ?B
    case' B=>refine' rZ (K:=K) (by rfl) PySem.F.plainAttrs_str PySem.F.slot_str_join PySem.F.type_str_join (AG (K:=K) (by rfl)) zR ?C
    case C=>o_head (l (z (l 0 a)) a)
   case' y=>refine' ai ?I ?M
   case I=>
    refine' cb ?ab ?ac a9
    case ab=>
     refine' cu (qJ (K:=K) (by rfl)) (pv 1) ?an (by with_unfolding_all rfl)
     case an=>show wJ (by rfl) T.fI.1
    case' ac=>refine' ax ?ap
    case' ap=>refine' c9 (k:=0) T.fC (hr.mono (by decide)) T.b0 9 eC ?aA
    case aA=>o_head (l f a)
   case M=>o_head (k (n 1))
  show {_,9,_,_,_,_,_,9,9,dP,.str _,ce,_,9,aO ?_};show ⟨9,_,9,(by show 1<=sizeLine;decide),λl j=>{_,l,[x],9,9,ak.of aa,?_,?_}⟩
  ·show (x.length+0)+1*0<=16777216
   omega
  rw[zH];show {_,9,Z.aR,_,9,.inr (T.fI.2 _),9,9,_,9,?_}
  by_cases h:F5 x
  ·rw[(l9 x).mpr h]
   show aO {_,9,q h _ (ag.upd j)}
  ·rw[MB.mpr λz=>h ((l9 x).mp z)]
   show bC ⟨(by show 1<=1000;decide),e h _ (ag.upd j)⟩
inductive x8(Z:Adr)(vs:7 V)(H:Hp)(Q:VK)(E:XK):Prop
 | mk (m:mu) (g:Gm) (n:3):vs=[.ref m,.int n]->uO H m g->g.1.length<=100->(DG n g->∀p H',ag H H'->H p=8->uO H' p g->Q (.ref p) H')->(¬ DG n g->∀H',ag H H'->E (.ref Z.aC) 8 H')->x8 Z vs H Q E
def iF:al ["move", "many", "pair"] ["move", "many"] (ah iS):=by o_head AA
def pR(T:Tx K mg Z):fU P w K mg base (lV P w) 03 "checked_move" ["move", "many"] (x8 Z):=by
 show pp T.aY λf fd F=>F.okE iF (λvs H Q E h=>?_) (λcdv A outer s H vs Q E hr h=>?_)
 ·let(m,g,n,9,_):=h
  rfl
 ·let(m,(x,t),n,9,r,hl,q,e):=h
  have r:H m=!.tup [.str x,.int t]:=r;refine' {_,?hterm,?_}
  case hterm=>
   have c:=iF;refine' ai ?q1 ?q2
   case q1=>
    refine' cb ?q3 ?q4 a9
    case q3=>o_head (w (s (u (l 0 (l xr a)))))
    case' q4=>refine' ax ?M
    case' M=>refine' c9 (k:=0) T.fC (hr.mono (by decide)) T.b0 9 eC ?ab
    case ab=>o_head (l f a)
   case' q2=>refine' ai ?ac ?an
   case ac=>o_head (o 2 (R (A a) 0))
   case' an=>refine' ai ?ap ?aA
   case ap=>
    refine' cb ?aC ?a0 a9
    case aC=>o_head (xG (t (l 2 a)) c)
    case' a0=>refine' ax ?a1
    case' a1=>refine' c9 (k:=0) T.fC (hr.mono (by decide)) T.b0 9 eC ?a2
    case a2=>o_head (l f a)
   case' aA=>refine' ax ?a3
   case' a3=>refine' fS ?a4
   case' a4=>refine' o8 ?a5
   case' a5=>refine' aD ?a6 ?a7
   case a6=>
    refine' jY (pQ T) (hr.mono (by decide)) 9 ?a8 (wN (λ_ _ _ z=>z))
    case a8=>o_head (l (v 2 c) a)
   case' a7=>refine' aD ?bb cz
   case' bb=>refine' jY (ot T) (hr.mono (by decide)) 9 ?bc (wN (λ_ _ _ z=>z))
   case bc=>o_head (l (v 2 c) (l 1 a))
  show {_,9,_,_,_,_,_,9,9,dP,.tup r,ce,_,9,aO ?_};show ⟨Jd _,λu y=>⟨_,9,.inr (.inr (.inl ⟨u,m,[],_,9,9,b9.of aa,b9.of (aj r y),(by show 0+2<=sizeLine;decide),λ_=>?_,λz=>absurd 9 z,λz=>absurd 9 z⟩))⟩⟩;have j:upd H u (.tup []) m=!.tup [.str x,.int t]:=aj r y;show {_,9,_,2,9,.inr {_,b9.of j,9},.inl {9,_,9,wC 9 ?_}};show {_,9,.inr {m,_,0,_,9,9,b9.of j,9,x,9,hl,λI H2 B=>?_,λI H2 B=>e (λz=>I z.1) _ ((ag.upd y).trans B)}};have s3:ag H H2:=(ag.upd y).trans B;show {_,9,.inr {m,_,1,_,9,9,b9.of (B _ _ j),9,_,9,t,n,9,λC=>?_,λC=>e (λz=>C z.2) _ s3}}
  show ⟨(by show 2<=sizeLine;decide),λp hp=>q ⟨I,C⟩ p _ (s3.trans (ag.upd hp)) (s3.free hp) aa⟩
inductive uB(Z:Adr)(vs:7 V)(H:Hp)(Q:VK)(E:XK):Prop
 | mk (a:mu) (gs:7 Gm) (n:3):vs=[.ref a,.int n]->ay H a gs->gs.length<=1000->(∀g∈gs,g.1.length<=100)->((∀g∈gs,DG n g)->∀p H',ag H H'->H p=8->ay H' p gs->Q (.ref p) H')->(¬ (∀g∈gs,DG n g)->∀H',ag H H'->E (.ref Z.aC) 8 H')->uB Z vs H Q E
def gC:al ["moves", "many"] ["moves", "many"] (ah dM):=by o_head AA
def ou(T:Tx K mg Z):fU P w K mg base (lV P w) 04 "checked_moves" ["moves", "many"] (uB Z):=by
 show pp T.aX λf fd F=>F.okE gC (λvs H Q E h=>?_) (λcdv A outer s H vs Q E hr h=>?_)
 ·let(a,gs,n,9,_):=h
  rfl
 ·let(a,gs,n,9,(rs,ha,hp),hz,hl,q,e):=h
  refine' {_,?hterm,?_}
  case hterm=>
   have c:=gC;refine' ai ?q1 ?q2
   case q1=>
    refine' cb ?q3 ?q4 a9
    case q3=>o_head (w (s (u (l 0 (l xp a)))))
    case' q4=>refine' ax ?aC
    case' aC=>refine' c9 (k:=0) T.fC (hr.mono (by decide)) T.b0 9 eC ?a0
    case a0=>o_head (l f a)
   case' q2=>refine' ax ?a1
   case' a1=>refine' fS ?a2
   case' a2=>refine' Bu 9 9 9 Di (i8 (sc:=ah dM) (N:=["moves", "many"]) (cap:=[8,!1]) (N':=["move", "many"]) 9 9 ⟨ 9,by decide +kernel,by decide +kernel,by decide +kernel,9,by decide +kernel ⟩) ?a3 (λ_ _ _ _=>?a4) (λ_ _ _ _=>gW) (λ_ _ _ _=>?a5)
   case a3=>o_head (I (R (z a) 0))
   case a4=>o_head (W 0 ["move", "many"])
   case a5=>
    refine' jY (pR T) (hr.mono (by decide)) 9 ?a6 Ho
    case a6=>o_head (l 0 (l 1 a))
  have ab:rs.length=gs.length:=Paired.length hp;show {_,9,_,_,_,_,_,9,9,dP,.lst ha,ce,_,9,aO ?_};show {Jd _,λu hu=>{_,9,.inr (.inl {u,a,[],rs.map V.ref,9,9,aa,aj ha hu,?_,λh hh=>?_})}}
  ·rw[Jo,lj,LQ]
   show Jh (am ())
  show {h,9,{_,ak.of aa},λp j=>?_};have ap:h≠p:=ae aa j;have sh:ag H (upd (upd H u (.lst [])) h (.lst (rs.map V.ref))):=(ag.upd hu).trans (ag.upd hh);have M:H p=8:=sh.free j
  let an:Nat->St->Hp->Prop:=λi σ y=>(∃v,σ=[v,!.int n])/\ag H y/\y h=!.lst (rs.map V.ref)/\(∃qs:7 mu,y p=!.lst (qs.map V.ref)/\Paired (uO y) qs (gs.take i))/\∀g∈gs.take i,DG n g
  show aW (K:=K) (a:=h) (xs:=rs.map V.ref) an
   {{_,9},sh.trans (ag.upd j),aj aa j,{[],aa,.nil},λg hg=>by cases hg} (λi σ y _ h=>ak.of h.2.2.1) ?_ ?_
  ·rintro i x σ y hx ⟨⟨v,rfl⟩,s2,h1,⟨qs,h2,C⟩,h4⟩
   let(r,er,9):=aK hx;let(g,em,hm):=Paired.get hp er;have hq:qs.length<=gs.length:=by
    rw[Paired.length C,Jn];omega
   show {_,9,_,9,r,g,n,9,uO.same s2 hm,hl g (xA em),λhg q' H3 B a7 ac=>?_,λhg H3 B=>e (λz=>hg (z g (xA em))) _ (s2.trans B)};show {_,B _ _ h2,?_,{_,9},?_,?_,{qs++[q'],?_,?_},?_}
   ·rw[lj]
    show am ()
   ·intro b o eb
    rw[af (ae eb M)];show B _ _ (s2 _ _ eb)
   ·rw[af ap]
    show B _ _ h1
   ·rw[aa,v0]
    rfl
   ·rw[aP em]
    have np:∀r' m',uO H3 r' m'->uO (upd H3 p (.lst (qs.map V.ref++[.ref q']))) r' m':=λr' m' z=>by
     unfold uO;rw[af (bh z (B _ _ h2) (by intro w';cases w'))];show z
    show Paired.snoc' (Paired.imp (λ_ _ z=>np _ _ (uO.same B z)) C) (np _ _ ac)
   ·rw[aP em]
    intro g' aA;let z||z:=Jc.mp aA
    ·show h4 g' z
    ·rw[Jj.mp z]
     show hg
  ·rintro σ y ⟨_,s2,h1,⟨qs,h2,C⟩,h4⟩
   rw[lj,ab,KL]at C h4;show q h4 p y s2 M ⟨qs,h2,C⟩
inductive js(Z:Adr)(vs:7 V)(H:Hp)(Q:VK)(u3:XK):Prop
 | mk (wA mA sA:mu) (b:Bool) (n:4) (T W:7 3) (gs:7 Gm):vs=[.ref wA,.bl b,.int n,.ref mA,.ref sA]->H wA=!.lst (T.map V.int)->T.length<=200->ay H mA gs->gs.length<=1000->(∀g∈gs,g.1.length<=100)->H sA=!.lst (W.map V.int)->(∀H',ag H H'->Q (.bl (goB T b n gs W)) H')->js Z vs H Q u3
def nU:al ["coming", "blind", "many", "moves", "wanted", "yard"] ["coming", "blind", "many", "moves", "wanted"] (ah oW):=by o_head AA
def lC(T:Tx K mg Z):fU P w K mg base bu 06 "leave_so" ["coming", "blind", "many", "moves", "wanted"] (js Z):=by
 o_head (AB T.a3 nU)
 let(wA,mA,sA,b,n,tr,W,gs,9,hw,aA,hM,r,a2,hW,kQ):=h;refine' {_,?hterm,?_}
 case hterm=>
  have c:=nU;refine' ai ?q1 ?q2
  case q1=>o_head (o 05 (O (FS T) (l 0 (l 1 a))))
  case' q2=>refine' ai ?q6 ?q7
  case q6=>
   refine' Df (K:=K) (by rfl) 9 9 ?q8 9 T.b0 T.e8 T.e9 9 T.b1 T.fA T.fB (λea=>?q9) (λea=>?bb)
   case q8=>
    refine' AQ ?bc
    case' bc=>refine' De (pv 05) (uy T) (hr.mono (by decide)) ?bd
    case' bd=>refine' CO (ou T) (hr.mono (by decide)) 9 ?bm
    case bm=>o_head (l 03 (l 2 a))
   case q9=>o_head (k (n e))
   case bb=>o_head (k (n e))
  case q7=>o_head (k (n (xx (m 05) 04)))
 show {_,9,_,9,λy dy hy ab bo=>{y,dy,wA,b,tr,9,aa,?_,λlA dA H3 I B k1 k2 k3 k4=>{9,?_}}}
 ·rw[af (ae hw hy),af (ae hw ab)]
  show hw
 have s3:ag H H3:=λc o e=>k1 c o (by rw[af (ae e hy),af (ae e ab)];show e) (ae e hy);have a8:lA≠y:=λz=>by rw[z,aa]at I;cases I
 have a7:dA≠y:=λz=>by rw[z,aa]at B;cases B
 have ac:H lA=8:=by
  rw[af a8]at I;have:lA≠dy:=λz=>by rw[z,aa]at I;cases I
  rw[af this]at I;show I
 have a0:H dA=8:=by
  rw[af a7]at B;have:dA≠dy:=λz=>by rw[z,aa]at B;cases B
  rw[af this]at B;show B
 show {_,9,y,dy,_,9,k4,(vL _ _ _ _ _).2.2.1,?_};show {_,9,_,9,mA,gs,n,9,hM.same s3,r,a2,λa5 cA H4 s4 f4 h4=>?_,λa4 H4 s4=>?_}
 ·let(ms,9,an):=x5 a5
  rw[lj]at r;have kQ:∀j,ag H j->Q (.bl (match Yd.steps tr b (Yd.init n) ms with | some st=>decide (st.left=W) | none=>5)) j:=λj s'=>by
   have:=kQ j s';unfold goB at this;rw[jZ an]at this;show this
  have p:∀{j:Hp},(∀a o,H4 a=!o->a≠y->a≠lA->a≠dA->j a=!o)->ag H j:=λ{j} z a o e=>
   z a o (s4 _ _ (s3 a o e)) (ae e hy) (ae e ac) (ae e a0)
  have aC:cA≠lA:=(ae k2 f4).symm;show {b,y,wA,lA,dA,cA,dy,tr,n,ms,9,s4 _ _ k4,s4 _ _ (s3 _ _ hw),s4 _ _ k2,s4 _ _ k3,ae hw ac,aC,ay.m h4,r,an,aA,λst M H5 tk m hm hY=>?_,λi st m M em hs d H5 k5 k6 bn a1=>?_}
  ·let(ap,a6):=hY.ins
   have s5:ag H H5:=p hY.oth;show {_,9,y,_,ap,_,_,9,a6,T.cA,T.cD,uw _ _ _ _ _,_,9,.inr {dI st.left,dI W,.ints (ak.of hY.left),.ints (ak.of (s5 _ _ hW)),aG _ _,aG _ _,?_}};have:=kQ H5 s5;rw[M]at this;have this:Q (.bl (decide (st.left=W))) H5:=this
   by_cases hq:st.left=W
   ·rw[decide_eq_true hq]at this
    show sw (by rw[hq]) this
   ·rw[decide_eq_false hq]at this
    show wS (λz=>hq (ll z)) this
  ·show ⟨Z.aD,9,λd' e=>⟨_,by cases e;show a1⟩,.inr {T.fF,T.fG,λea C=>?_}⟩
   have:=kQ (upd H5 ea (XH ea Z.aD (!d))) ((p k5).trans (ag.upd C));have hn:Yd.steps tr b (Yd.init n) ms=8:=uh M em hs;rw[hn]at this;show this
 ·have hf:goB tr b n gs W=5:=by
   unfold goB;cases e:aM tr b n (Yd.init n) gs with
   | none=>rfl
   | some st=>show absurd (rk e) a4
  show {Z.aC,9,λd e=>(by cases e),.inl {T.fD,λea C=>?_}};rw[hf]at kQ;show kQ _ ((s3.trans s4).trans (ag.upd C))
end G
inductive kP(K:PySem.W.Frag)(vs:7 V)(H:Hp)(Q:VK)(u3:XK):Prop
 | mk (pA tA:mu) (ps:7 3) (xs:7 V):vs=[.ref pA,.ref tA]->H pA=!.lst (ps.map V.int)->ps.length<=1000->H tA=!.lst xs->(∀H',ag H H'->Q (.bl (ub xs.length ps)) H')->kP K vs H Q u3
def kR:al ["places", "train"] ["places", "train"] (ah gR):=by o_head AA
def ii(T:Tx K mg Z):fU P w K mg base bu 2 "are_places" ["places", "train"] (kP K):=by
 o_head (AB T.a4 kR)
 let(pA,tA,ps,xs,9,hp,hz,ht,kQ):=h
 o_head (AE kR (k (n (xh (l (V gR ["places", "train"] [none,some 1] ["place", "train"] (I 0) (W 0 ["place", "train"]) (P (r (jr T) (l 0 a)) (Q (xP wk cL c 0 (t (l 1 a)))))) a)))))
 show {_,9,pA,9,{_,ak.of hp},λl M=>?_}
 let C:Nat->St->Hp->Prop:=λi σ e=>(∃v,σ=[v,!.ref tA])/\ag H e/\e l=!(.lst (((ps.take i).map λ(p:Int)=>decide (0<=p)&&decide (p<(xs.length:3))).map V.bl))
 show aW (K:=K) (a:=pA) (xs:=ps.map V.int) C
  {{_,9},ag.upd M,aa} (λi σ e _ h=>ak.of (h.2.1 _ _ hp)) ?_ ?_
 ·rintro i x σ e hx ⟨⟨v,rfl⟩,B,y⟩
  let(z,ez,9):=aK hx;have j:∀c:Bool,c=(decide (0<=z)&&decide (z<(xs.length:3)))->∃ys,e l=!.lst ys/\ys.length<sizeLine/\((∃v,[!V.int z,!V.ref tA]=[v,!.ref tA])/\ag H (upd e l (.lst (ys++[.bl c])))/\upd e l (.lst (ys++[.bl c])) l=!(.lst (((ps.take (i+1)).map λ(p:Int)=>decide (0<=p)&&decide (p<(xs.length:3))).map V.bl))):=by
   intro c hc;show {_,y,?_,{_,9},ag.updN B M,?_}
   ·rw[lj,lj,Jn]
    show am ()
   ·rw[aa,aP ez,v0,v0,hc]
    rfl
  show {_,9,z,9,_,9,bC ?_};show {_,9,0,z,9,9,_,9,?_}
  by_cases o:(0:3)<=z
  ·rw[decide_eq_true o]
   show bC {_,9,_,_,9,.inl {_,ak.of (B _ _ ht),9},z,_,9,9,?_};show j _ (by rw[decide_eq_true o,JA])
  ·rw[decide_eq_false o]
   show aO (j _ (by rw[decide_eq_false o,Jw]))
 ·rintro σ e ⟨_,B,y⟩
  rw[lj,KL]at y;show {l,_,9,ak.of y,?_};have:=kQ e B;unfold ub at this;rw[all_map];show this
inductive kT(K:PySem.W.Frag)(vs:7 V)(H:Hp)(Q:VK)(u3:XK):Prop
 | mk (pA tA:mu) (ps:7 3) (xs:7 V):vs=[.ref pA,.ref tA]->H pA=!.lst (ps.map V.int)->ps.length<=1000->H tA=!.lst xs->(∀H',ag H H'->Q (.bl (bw xs.length (-1) ps)) H')->kT K vs H Q u3
def dC:al ["places", "train"] ["places", "train"] (ah b6):=by o_head AA
def b7(T:Tx K mg Z):fU P w K mg base bu 03 "are_rising_places" ["places", "train"] (kT K):=by
 o_head (AB T.a5 dC)
 let(pA,tA,ps,xs,9,hp,hz,ht,kQ):=h
 o_head (AE dC (k (n (P (r (ii T) (l 0 (l 1 a))) (Q (xh (l (V b6 ["places", "train"] [none,none] ["ahead", "place"] (xX (l 0 (l (xc 0 (S c) i) a))) (N 2 (H (W 0 ["ahead", "place"]) (H (W 1 ["ahead", "place"]) h))) (xz 0 1)) a)))))))
 show {_,9,_,9,pA,tA,ps,xs,9,hp,hz,ht,λH1 s1=>{_,9,?_}};cases B:ub xs.length ps with
 | false=>
  show aO ?_;have:=kQ H1 s1;rw[ji,B,Jw]at this;show this
 | true=>
  show bC ?_;have C:=s1 _ _ hp;show {_,9,_,9,_,9,pA,_,9,ak.of C,λq hq=>?_};have o:dm (ps.map V.int) (!1) 8=(ps.drop 1).map V.int:=by rw[show (1:3)=((1:4):3) from 9,cJ,O7]
  rw[o];show {pA,q,9,{_,ak.of (aj C hq)},{_,ak.of aa},λl hl=>?_};have s2:ag H (upd H1 q (.lst ((ps.drop 1).map V.int))):=s1.trans (ag.upd hq);have ab:H l=8:=s2.free hl;have p:q≠l:=ae aa hl
  let I:Nat->St->Hp->Prop:=λi σ e=>(∃a b,σ=[a,b])/\ag H e/\e q=!.lst ((ps.drop 1).map V.int)/\e l=!.lst (((wT ps).take i).map V.bl)
  show jW (K:=K) (xs:=ps.map V.int) (ys:=(ps.drop 1).map V.int)
   I
   ⟨{_,_,9},s2.trans (ag.upd hl),by rw[af p,aa],aa⟩ (λi σ e h=>{ak.of (h.2.1 _ _ hp),ak.of h.2.2.1}) ?_ ?_
  ·rintro i x y t σ e hx hy ⟨⟨a1,b1,rfl⟩,s3,h2,h3⟩ j
   let(z,ez,9):=aK hx;let(z',M,9):=aK hy;show {t,_,9,b9.of aa,9,_,_,9,_,_,9,9,?_};show {_,9,_,9,z,z',9,9,?_};have e3:upd e t (.tup [.int z,.int z']) l=!.lst (((wT ps).take i).map V.bl):=aj h3 j;show {_,e3,?_,{_,_,9},ag.updN (s3.trans (ag.upd j)) ab,?_,?_}
   ·rw[lj,Jn,wU]
    show am ()
   ·rw[af p];show aj h2 j
   ·rw[aa,MC,C0 ez M,v0]
    rfl
  ·rintro σ e ⟨_,s3,_,h3⟩
   show {l,wT ps,9,ak.of ?_,?_}
   ·rw[h3,JS]
    rw[wU,lj,lj,JM];show oN _
   ·have:=kQ e s3
    rw[ji,B,JA]at this;show this
inductive jt(K:PySem.W.Frag)(vs:7 V)(H:Hp)(Q:VK)(u3:XK):Prop
 | mk (pA tA:mu) (ps T:7 3):vs=[.ref pA,.ref tA]->H pA=!.lst (ps.map V.int)->ps.length<=1000->H tA=!.lst (T.map V.int)->(∀H',ag H H'->Q (.bl (dQ T ps)) H')->jt K vs H Q u3
def cU:al ["places", "train"] ["places", "train"] (ah bM):=by o_head AA
def dD(T:Tx K mg Z):fU P w K mg base bu 04 "are_falling_wagons" ["places", "train"] (jt K):=by
 o_head (AB T.a6 cU)
 let(pA,tA,ps,o,9,hp,hz,ht,kQ):=h
 o_head (AE cU (j (q (w (s (r (b7 T) (l 0 (l 1 a))))) (k (n e)) d) (k (n (xh (l (V bM ["places", "train"] [none,none,some 1] ["ahead", "place", "train"] (xX (l 0 (l (xc 0 (S c) i) a))) (N 2 (H (W 0 ["ahead", "place", "train"]) (H (W 1 ["ahead", "place", "train"]) h))) (xz (v 2 1) (v 2 0))) a))))))
 show {_,9,_,9,pA,tA,ps,_,9,hp,hz,ht,λH1 s1=>{_,9,?_}};rw[lj];cases I:bw (o.length:3) (-1) ps with
 | false=>
  show bC ?_;have:=kQ H1 s1;unfold dQ at this;rw[I,Jw]at this;show this
 | true=>
  show aO ?_;have nn:=(lY I).2.2;have ac:=s1 _ _ hp;show {_,9,_,9,_,9,pA,_,9,ak.of ac,λq hq=>?_};have M:dm (ps.map V.int) (!1) 8=(ps.drop 1).map V.int:=by rw[show (1:3)=((1:4):3) from 9,cJ,O7]
  rw[M];show {pA,q,9,{_,ak.of (aj ac hq)},{_,ak.of aa},λl hl=>?_};have s2:ag H (upd H1 q (.lst ((ps.drop 1).map V.int))):=s1.trans (ag.upd hq);have aA:H l=8:=s2.free hl;have ab:q≠l:=ae aa hl
  let ap:Nat->St->Hp->Prop:=λi σ p=>(∃a b,σ=[a,b,!.ref tA])/\ag H p/\p q=!.lst ((ps.drop 1).map V.int)/\p l=!.lst (((IZ i).map (jh o ps)).map V.bl)
  show jW (K:=K) (xs:=ps.map V.int) (ys:=(ps.drop 1).map V.int)
   ap
   ⟨{_,_,9},s2.trans (ag.upd hl),by rw[af ab,aa],aa⟩ (λi σ p h=>{ak.of (h.2.1 _ _ hp),ak.of h.2.2.1}) ?_ ?_
  ·rintro i x y t σ p hx hy ⟨⟨a1,b1,rfl⟩,s3,h2,h3⟩ B
   let(z,ez,9):=aK hx;let(z',C,9):=aK hy;have aC:i<ps.length:=(op.mp ez).1;let(n1,n2):=nn z (xA ez);let(n3,n4):=nn z' (Lz (xA C));let(k,9):∃k:Nat,z=(k:Int):=⟨z.toNat,()⟩;let(k',9):∃k':Nat,z'=(k':Int):=⟨z'.toNat,()⟩;have gT:∀j:4,j<o.length->oh (o.map V.int) (j:3)=!.int (o.getD j 0):=λj hj=>by
    show aq ?_;rw[r6,oa,li hj];rfl
   have an:upd p t (.tup [.int (k:3),.int (k':3)]) tA=!.lst (o.map V.int):=aj (s3 _ _ ht) B;show {t,_,9,b9.of aa,9,_,_,9,_,_,9,9,?_};show {_,9,_,9,.inl {tA,_,(k':3),_,9,9,ak.of an,gT k' (),?_}};show {_,9,_,9,.inl {tA,_,(k:3),_,9,9,ak.of an,gT k (),_,_,9,9,?_}};have e3:upd p t (.tup [.int (k:3),.int (k':3)]) l=!.lst (((IZ i).map (jh o ps)).map V.bl):=aj h3 B;show {_,e3,?_,{_,_,9},ag.updN (s3.trans (ag.upd B)) aA,?_,?_}
   ·rw[lj,lj,Jv]
    show am ()
   ·rw[af ab];show aj h2 B
   ·rw[aa,NG,v0,v0]
    have ef:jh o ps i=decide (o.getD k' 0<o.getD k 0):=by
     unfold jh;rw[Ml,Qh]at C;rw[oa (l:=ps),oa (l:=ps),ez,C];rfl
    show _=!(HO.lst (_++[V.bl (jh o ps i)]));rw[ef]
  ·rintro σ p ⟨_,s3,_,h3⟩
   show {l,(IZ (ps.length-1)).map (jh o ps),9,ak.of ?_,?_}
   ·rw[h3,lj,lj,JM,show min ps.length (ps.length-1)=ps.length-1 from ()]
   ·have:=kQ p s3
    unfold dQ at this;rw[I,JA]at this;rw[all_map];show this
def ow(Z:Adr)(H:Hp):Prop:=H Z.aT=!.tbl eX eY
def ow.of{H:Hp}(T:Tx K mg Z)(h:uT K tu H):ow Z H:=h _ _ (Be T.a2)
def ow.same{H a:Hp}(h:ow Z H)(s:ag H a):ow Z a:=s _ _ h
inductive rm(Z:Adr)(vs:7 V)(H:Hp)(Q:VK)(u3:XK):Prop
 | mk (a:mu) (T:7 3):vs=[.ref a]->H a=!.lst (T.map V.int)->T.length<=199->ow Z H->(∀(l:mu) (H':Hp) (ord:7 4),ag H H'->H l=8->qi T ord->H' l=!.lst (aH ord)->Q (.ref l) H')->rm Z vs H Q u3
def lD:al ["wagons"] ["wagons"] (ah bL):=by o_head AA
def fJ(T:Tx K mg Z):fU P w K mg base bu 03 "places_in_order" ["wagons"] (rm Z):=by
 show C7 T.a1 λf fd F hc=>F.okC hc lD (λvs H Q E h=>?_) (λA outer s H vs Q E hr h=>?_)
 ·let(a,T,9,_):=h
  rfl
 ·let(a,M,9,n,t,p,k):=h
  refine' {_,?hterm,?_}
  case hterm=>
   refine' ax ?u
   case' u=>refine' fS ?v
   case v=>
    refine' FB (k:=0) (P:=Z.aT) (c:=Z.aS) (x := "place") (y := "wagons") (j:=0) zr (by decide) ?z (hr.mono (by decide)) 9 (λi=>PySem.W.codeHd_of_K i T.a1.hd)
     (i8 (sc:=ah bL) (N:=["wagons"]) (cap:=[8,!0]) (N':=["place", "wagons"]) 9 9 ⟨9,by decide +kernel,by decide +kernel,by decide +kernel,9,by decide +kernel⟩) 9 9 9 9 (by rfl) T.aP 9 (λ_ _ _ _ _=>rfl)
    case' z=>refine' eK nL (by rfl) T.aM wR ?B
    case' B=>refine' aD ?C cz
    case' C=>refine' bP (mR (K:=K) (by rfl)) (by rfl) T.aH wO ?D
    case D=>show aD (pv 0) cz
  show {_,9,_,_,9,.inl {_,ak.of n,9},0,_,.inl ⟨9,9⟩,λr b=>{r,a,M,9,?_,9,aj n b,t,aj p b,λl o ord I q d e=>k l o ord ((ag.upd b).trans I) ((ag.upd b).free q) d e}};rw[aa,lj]
inductive iG(C:mu)(vs:7 V)(H:Hp)(Q:VK)(u3:XK):Prop
 | mk (p dx mA:mu) (xs:7 V):vs=[.ref p,.ref mA]->H p=!.ins C dx []->H mA=!.lst xs->(∀l,H l=8->l≠p->Q .non (upd (upd H l (.lst xs)) p (.ins C dx [("moves",.ref l)])))->iG C vs H Q u3
def iH:al ["self", "moves"] ["self", "moves"] (ah iV):=by o_head AA
def rn(T:Tx K mg Z):lQ P w K mg base bu 1 "Shunted" Z.aH ["self", "moves"] (iG Z.aH):=by
 o_head (AD T.cG T.d9 iH)
 let(p,o,y,xs,9,hp,r,k):=h
 o_head (AE iH (k (F 0 (xl (l 1 a)))))
 show {_,9,y,xs,9,.inl (ak.of r),λl e=>?_};have j:l≠p:=(ae hp e).symm;show ⟨_,9,p,_,o,_,9,aj hp e,T.cH,T.cK,(by show 0<1000;decide),k l e j⟩
def DH(i j k:3):7 (xD×V):=[("first",.int i),("second",.int j),("third",.int k)]
def x9(i j k:3):aZ "third" (.int k) (aZ "second" (.int j) (aZ "first" (.int i) []))=DH i j k:=9
inductive kU(C:mu)(vs:7 V)(H:Hp)(Q:VK)(u3:XK):Prop
 | mk (p dx:mu) (i j k:3):vs=[.ref p,.int i,.int j,.int k]->H p=!.ins C dx []->(∀H',H' p=!.ins C dx (DH i j k)->(∀c o,H c=!o->c≠p->H' c=!o)->Q .non H')->kU C vs H Q u3
def kW:al ["self", "first", "second", "third"] ["self", "first", "second", "third"] (ah lJ):=by o_head AA
def DI(T:Tx K mg Z):lQ P w K mg base bu 1 "Three" Z.aI ["self", "first", "second", "third"] (kU Z.aI):=by
 o_head (AD T.cL T.eB kW)
 let(p,r,i,j,k,9,hp,y):=h
 o_head (AE kW (j (F 0 1) (j (F 0 2) (k (F 0 03)))))
 show ⟨_,9,_,9,p,_,r,_,9,hp,T.cM,T.cN,(by show 0<1000;decide),?_⟩;show ⟨_,9,_,9,p,_,r,_,9,aa,T.cM,T.cO,(by show 1<1000;decide),?_⟩;show ⟨_,9,_,9,p,_,r,_,9,aa,T.cM,T.cP,(by show 2<1000;decide),?_⟩;rw[x9];show y _ aa λc o e hc=>?_;rw[af hc,af hc,af hc];show e
end My
namespace My
open PySem L2
open G
def ju{T ns:7 3}{b:Bool}{n:4}{gs:7 Gm}(a:T.Nodup)(hp:ns.Perm T)(hs:ns.Pairwise (· <= ·)):G.goB T b n gs ns=bQ T b n gs:=by
 unfold G.goB;cases e:aM T b n (Yd.init n) gs with
 | none=>show (qQ e).symm
 | some st=>
  show decide (st.left=ns)=_;rw[JO,decide_eq_true_iff];show nM a e hp hs
inductive gE(C:mu)(vs:7 V)(H:Hp)(Q:VK)(u3:XK):Prop
 | mk (p mA tA:mu) (gs:7 Gm) (b:Bool) (n:4) (T:7 3):vs=[.ref p,.ref tA,.bl b,.int n]->ua C H p mA gs->gs.length<=1000->(∀g∈gs,g.1.length<=100)->H tA=!.lst (T.map V.int)->T.Nodup->T.length<64->(∀H',ag H H'->Q (.bl (bQ T b n gs)) H')->gE C vs H Q u3
def gF:al ["self", "train", "blind", "many"] ["self", "train", "blind", "many"] (ah iu):=by o_head AA
def m_Shunted_shows(T:Tx K mg Z):cM P w K mg base bu 07 Z.aH "shows" ["self", "train", "blind", "many"] (gE Z.aH):=by
 o_head (AC T.cH T.eA gF)
 let(p,mA,tA,gs,b,n,C,9,(M,fs,h1,h2,h3,h4),e,j,B,y,hz,kQ):=h
 o_head (AE gF (k (n (r (lC T) (l 1 (l 2 (l 03 (l (m 0) (l (xk (l 1 a)) a)))))))))
 show {_,9,_,9,_,9,_,9,p,_,M,_,_,9,h1,T.cH,T.cK,h2,_,9,tA,C,9,ak.of B,(),λl ns hl hp hs=>?_};have z:=ag.upd (o:=.lst (ns.map V.int)) hl;show {tA,mA,l,b,n,C,ns,gs,9,z _ _ B,(),h4.same z,e,j,aa,λI s2=>?_};rw[ju y hp hs];show kQ I (z.trans s2)
inductive kX(C:mu)(vs:7 V)(H:Hp)(Q:VK)(u3:XK):Prop
 | mk (p dx mA:mu) (xs:7 V):vs=[.ref p,.ref mA]->H p=!.ins C dx []->H mA=!.lst xs->(∀l,H l=8->l≠p->Q .non (upd (upd H l (.lst xs)) p (.ins C dx [("moves",.ref l)])))->kX C vs H Q u3
def kY:al ["self", "moves"] ["self", "moves"] (ah lK):=by o_head AA
def DJ(T:Tx K mg Z):lQ P w K mg base bu 1 "Given" Z.aM ["self", "moves"] (kX Z.aM):=by
 o_head (AD T.c4 T.eJ kY)
 let(p,o,y,xs,9,hp,r,k):=h
 o_head (AE kY (k (F 0 (xl (l 1 a)))))
 show {_,9,y,xs,9,.inl (ak.of r),λl e=>?_};have j:l≠p:=(ae hp e).symm;show ⟨_,9,p,_,o,_,9,aj hp e,T.c5,T.c6,(by show 0<1000;decide),k l e j⟩
inductive jv(C:mu)(vs:7 V)(H:Hp)(Q:VK)(u3:XK):Prop
 | mk (p mA tA:mu) (gs:7 Gm) (O:7 3):vs=[.ref p,.ref tA]->ua C H p mA gs->gs.length<=1000->(∀g∈gs,g.1.length<=100)->H tA=!.lst (O.map V.int)->O.length<64->(∀H',ag H H'->Q (.bl (G.goB (Yd.R O.length) 6 1 gs O)) H')->jv C vs H Q u3
def jw:al ["self", "order"] ["self", "order"] (ah km):=by o_head AA
def m_Given_shows(T:Tx K mg Z):cM P w K mg base bu 07 Z.aM "shows" ["self", "order"] (jv Z.aM):=by
 o_head (AC T.c5 T.eK jw)
 let(p,mA,tA,gs,O,9,(dx,fs,h1,h2,h3,h4),r,y,B,hz,kQ):=h;refine' {_,?hterm,?_}
 case hterm=>
  have c:=jw;refine' ax ?q1
  case' q1=>refine' fS ?q2
  case' q2=>refine' pi (lC T) (hr.mono (by decide)) 9 ?q3
  case' q3=>refine' aD ?q4 ?q5
  case q4=>
   refine' eK (t9 (K:=K) (by rfl) (by rfl)) (by rfl) T.aI vn ?q6
   case q6=>o_head (l (xn (l (t (l 1 a)) a)) a)
  case q5=>o_head (l e (l c (l (m 0) (l 1 a))))
 show {_,9,_,_,9,.inl {_,ak.of B,9},0,_,.inl ⟨9,9⟩,λrA z=>.inr ⟨rA,0,_,9,aa,by decide,by decide,?_,?_,λl C=>?_⟩}
 ·rw[lj];omega
 ·rw[lj];omega
 rw[lj,Fx];have I:=(ag.upd (o:=.rng 0 ((O.map V.int).length:3)) z);rw[lj]at I C;have j:=I.trans (ag.upd (o:=.lst ((Yd.R O.length).map V.int)) C);show {_,9,p,_,dx,_,_,9,j _ _ h1,T.c5,T.c6,h2,_,9,?_};show ⟨l,mA,tA,6,1,Yd.R O.length,O,gs,9,aa,by rw[Yd.kI];omega,h4.same j,r,y,j _ _ B,λM s3=>kQ M (j.trans s3)⟩
inductive fg(C:mu)(vs:7 V)(H:Hp)(Q:VK)(u3:XK):Prop
 | mk (p dx mA pA:mu) (xs ys:7 V):vs=[.ref p,.ref mA,.ref pA]->H p=!.ins C dx []->H mA=!.lst xs->H pA=!.lst ys->(∀(u v:mu) (fs:7 (xD×V)) (H':Hp),H u=8->H v=8->u≠v->H' p=!.ins C dx fs->fs.lookup (rd "moves")=!.ref u->fs.lookup (rd "places")=!.ref v->fs.lookup (rd "shows")=8->H' u=!.lst xs->H' v=!.lst ys->(∀c o,H c=!o->c≠p->H' c=!o)->Q .non H')->fg C vs H Q u3
def jx:al ["self", "moves", "places"] ["self", "moves", "places"] (ah kj):=by o_head AA
def pS(T:Tx K mg Z):lQ P w K mg base bu 1 "Fewest" Z.aL ["self", "moves", "places"] (fg Z.aL):=by
 o_head (AD T.c0 T.eH jx)
 let(p,dx,mA,pA,xs,ys,9,hp,hm,hq,k):=h
 o_head (AE jx (j (F 0 (xl (l 1 a))) (k (F 0 (xl (l 2 a))))))
 show {_,9,mA,xs,9,.inl (ak.of hm),λu C=>?_};have I:u≠p:=(ae hp C).symm;show ⟨_,9,p,_,dx,_,9,aj hp C,T.c1,T.c2,(by show 0<1000;decide),?_⟩;have ab:pA≠p:=λz=>by rw[z,hp]at hq;cases hq
 show ⟨_,9,pA,ys,9,.inl (ak.of (by rw[af ab];show aj hq C)),λv hv=>?_⟩;have y:v≠p:=λz=>by rw[z,aa]at hv;cases hv
 have r:upd H u (.lst xs) v=8:=by rw[af y]at hv;show hv
 have B:v≠u:=λz=>by rw[z,aa]at r;cases r
 have M:H v=8:=by rw[af B]at r;show r
 show ⟨_,9,p,_,dx,_,9,(by rw[af y.symm];show aa),T.c1,T.c3,(by show 1<1000;decide),?_⟩;show k u v _ _ C M B.symm aa 9 9 9 ?_ ?_ λc o e hc=>?_
 ·rw[af I,af B.symm,af I,aa]
 ·rw[af y,aa]
 ·rw[af hc,af (ae e M),af hc,af (ae e C)]
  show e
def yb{T ns:7 3}{gs:7 Gm}(b:T.Nodup)(hp:ns.Perm T)(hs:ns.Pairwise (· <= ·)):G.goB T 5 0 gs ns=((decide (([]:7 3)≠[])||decide (T=[]))&&bQ T 5 (max 1 ([]:7 3).length) gs):=by
 rw[decide_eq_false (λz=>z 9),Pw];show _=(decide (T=[])&&bQ T 5 1 gs)
 by_cases e:T=[]
 ·subst e
  rw[decide_eq_true 9,JA,ju b hp hs];cases gs with
  | nil=>rfl
  | cons g r=>
   have z:∀n,aU [] 5 n (Yd.init n) g=8:=λn=>by
    unfold aU;cases a:sY n g with
    | none=>rfl
    | some m=>
     have c:=A3 a;show Yd.step [] 5 (Yd.init n) m=8;unfold Yd.step
     split
     ·rfl
     ·have:(Yd.init n).tr.getD m.2 []=[]:=by
       show (ra n ([]:7 3)).getD m.2 []=[];rw[oa,JV,if_pos c];rfl
      simp only[this];rfl
   unfold bQ aM;rw[z,z];rfl
 ·rw[decide_eq_false e,Jw]
  unfold G.goB;cases gs with
  | nil=>show decide_eq_false λz=>e (by rw[<- z]at hp;show List.Perm.eq_nil hp.symm)
  | cons g r=>
   have z:aU T 5 0 (Yd.init 0) g=8:=by
    unfold aU sY;rw[if_neg (λz=>by have d:=z.1;have f:g.2<0:=z.2;omega)];rfl
   unfold aM;rw[z];rfl
inductive iI(C:mu)(vs:7 V)(H:Hp)(Q:VK)(u3:XK):Prop
 | mk (p mA pA tA:mu) (gs:7 Gm) (ps:7 3) (T:7 3):vs=[.ref p,.ref tA]->vw C H p mA pA gs ps->gs.length<=1000->(∀g∈gs,g.1.length<=100)->ps.length<=900->H tA=!.lst (T.map V.int)->T.Nodup->T.length<64->(∀H',ag H H'->Q (.bl (Ba T gs ps)) H')->iI C vs H Q u3
def iJ:al ["self", "train"] ["self", "train"] (ah iY):=by o_head AA
def m_Fewest_shows(T:Tx K mg Z):cM P w K mg base bu 07 Z.aL "shows" ["self", "train"] (iI Z.aL):=by
 o_head (AC T.c1 T.eI iJ)
 let(p,mA,pA,tA,gs,ps,M,9,(dx,fs,h1,h2,h3,h4,h5,h6,h7),ab,ac,an,hT,B,hz,C):=h
 o_head (AE iJ (j (q (w (s (r (dD T) (l (m 0) (l 1 a))))) (k (n e)) d) (k (n (r (lC T) (l 1 (l e (l (t (l (m 0) a)) (l (m 0) (l (xk (l 1 a)) a))))))))))
 show {_,9,p,_,dx,_,_,9,h1,T.c1,T.c3,h3,_,9,pA,tA,ps,M,9,h6,(),hT,λH1 I=>{_,9,?_}};unfold Ba at C;cases z:dQ M ps with
 | false=>
  rw[z,Jw,Jw]at C;show bC (C H1 I)
 | true=>
  rw[z,JA]at C;show aO ?_;have y:=I _ _ h1;show {_,9,_,9,p,_,dx,_,_,9,y,T.c1,T.c3,h3,_,_,9,.inl {_,ak.of (I _ _ h6),9},_,9,p,_,dx,_,_,9,y,T.c1,T.c2,h2,_,9,tA,M,9,ak.of (I _ _ hT),(),λl ns hl hp hs=>?_};have s2:=I.trans (ag.upd (o:=.lst (ns.map V.int)) hl);rw[lj];show {tA,mA,l,5,ps.length,M,ns,gs,9,s2 _ _ hT,(),h5.same s2,ab,ac,aa,λH' s3=>?_};have:=C H' (s2.trans s3);cases ps with
  | nil=>rw[<- yb B hp hs]at this;show this
  | cons a r=>
   rw[decide_eq_true (show a::r≠[] by simp),Qn,JA,show max 1 (a::r).length=(a::r).length from by simp only[vl];omega]at this;rw[ju B hp hs];show this
inductive iK(C:mu)(vs:7 V)(H:Hp)(Q:VK)(u3:XK):Prop
 | mk (p dx mA:mu) (xs:7 V):vs=[.ref p,.ref mA]->H p=!.ins C dx []->H mA=!.lst xs->(∀l,H l=8->l≠p->Q .non (upd (upd H l (.lst xs)) p (.ins C dx [("places",.ref l)])))->iK C vs H Q u3
def iL:al ["self", "places"] ["self", "places"] (ah iX):=by o_head AA
def zI(T:Tx K mg Z):lQ P w K mg base bu 1 "Falling" Z.aK ["self", "places"] (iK Z.aK):=by
 o_head (AD T.cX T.eF iL)
 let(p,o,y,xs,9,hp,r,k):=h
 o_head (AE iL (k (F 0 (xl (l 1 a)))))
 show {_,9,y,xs,9,.inl (ak.of r),λl e=>?_};have j:l≠p:=(ae hp e).symm;show ⟨_,9,p,_,o,_,9,aj hp e,T.cY,T.cZ,(by show 0<1000;decide),k l e j⟩
inductive gG(C:mu)(vs:7 V)(H:Hp)(Q:VK)(u3:XK):Prop
 | mk (p pA tA:mu) (ps:7 3) (n:4) (T:7 3):vs=[.ref p,.ref tA,.int n]->A9 C H p pA ps->ps.length<=900->H tA=!.lst (T.map V.int)->T.Nodup->T.length<64->(∀H',ag H H'->Q (.bl (decide (ps.length=n+1)&&dQ T ps)) H')->gG C vs H Q u3
def gH:al ["self", "train", "many"] ["self", "train", "many"] (ah iy):=by o_head AA
def m_Falling_shows(T:Tx K mg Z):cM P w K mg base bu 07 Z.aK "shows" ["self", "train", "many"] (gG Z.aK):=by
 o_head (AC T.cY T.eG gH)
 let(p,pA,tA,ps,n,tr,9,(o,fs,y,z,h3,B),ab,M,ac,hz,C):=h
 o_head (AE gH (k (n (P (xx (t (l (m 0) a)) (R 2 c)) (Q (r (dD T) (l (m 0) (l 1 a))))))))
 show {_,9,p,_,o,_,_,9,y,T.cY,T.cZ,z,_,_,9,.inl {_,ak.of B,9},_,9,.inl {_,1,9,9,.inl {9,_,9,?_}}};rw[lj]
 by_cases j:ps.length=n+1
 ·show fb (by rw[j];rfl) ?_
  show {_,9,p,_,o,_,_,9,y,T.cY,T.cZ,z,_,9,pA,tA,ps,tr,9,B,(),M,λI s'=>?_};have:=C I s';rw[decide_eq_true j,JA]at this;show this
 ·show cT (λe=>j (by have:=V.int.inj e;omega)) ?_
  have:=C H (ag.refl _);rw[decide_eq_false j,Jw]at this;show this
inductive jy(C:mu)(vs:7 V)(H:Hp)(Q:VK)(u3:XK):Prop
 | mk (p tA:mu) (i j k:3) (T:7 3):vs=[.ref p,.ref tA]->He C H p i j k->H tA=!.lst (T.map V.int)->T.Nodup->T.length<64->(∀H',ag H H'->Q (.bl (vv T i j k)) H')->jy C vs H Q u3
def jz:al ["self", "train"] ["self", "train"] (ah ki):=by o_head AA
def m_Three_shows(T:Tx K mg Z):cM P w K mg base bu 07 Z.aI "shows" ["self", "train"] (jy Z.aI):=by
 o_head (AC T.cM T.eC jz)
 let(p,tA,i,j,k,M,9,(I,fs,h1,h2,h3,h4,h5),hT,an,hz,kQ):=h
 o_head (AE jz (j (q (w (s (r (b7 T) (l (z (l (m 0) (l (m 0) (l (m 0) a)))) (l 1 a))))) (k (n e)) d) (k (n (xP cL cL (v 1 (m 0)) (v 1 (m 0)) (v 1 (m 0)))))))
 show {_,9,p,_,I,_,_,9,h1,T.cM,T.cN,h2,_,9,p,_,I,_,_,9,h1,T.cM,T.cO,h3,_,9,p,_,I,_,_,9,h1,T.cM,T.cP,h4,?_};show ⟨(by show 03<=sizeLine;decide),λl hl=>?_⟩;have s1:=ag.upd (o:=.lst [.int i,.int j,.int k]) hl;show ⟨_,9,l,tA,[i,j,k],_,9,aa,(by show 03<=1000;decide),s1 _ _ hT,λH1 s2=>{_,9,?_}⟩;have y:=s1.trans s2;have B:=y _ _ hT;rw[lj];cases C:bw M.length (-1) [i,j,k] with
 | false=>
  show bC ?_;have:=kQ H1 y;unfold vv at this;rw[C,Jw]at this;show this
 | true=>
  show aO ?_;have ab:ub M.length [i,j,k]=6:=by
   have:=C;rw[ji,Jf]at this;show this.1
  have at_:∀z,z∈[i,j,k]->oh (M.map V.int) z=!.int (M.getD z.toNat 0):=λz ac=>by
   let(a1,a2):=ln ab ac;have e:z=(z.toNat:3):=()
   rw[e];show aq ?_;rw[Ji,r6,li (),oa,li ()];rfl
  have g1:=y _ _ h1;show {_,9,_,9,p,_,I,_,_,9,g1,T.cM,T.cP,h4,.inl {tA,_,k,_,9,9,ak.of B,at_ k (by simp),?_}};show {_,9,_,9,p,_,I,_,_,9,g1,T.cM,T.cN,h2,.inl {tA,_,i,_,9,9,ak.of B,at_ i (by simp),?_}};have:=kQ H1 y;unfold vv at this;rw[C,JA]at this;show {_,_,9,9,_,9,?_}
  by_cases hc:M.getD k.toNat 0<M.getD i.toNat 0
  ·rw[decide_eq_true hc]at this ⊢
   show bC {_,9,_,9,p,_,I,_,_,9,g1,T.cM,T.cO,h3,.inl {tA,_,j,_,9,9,ak.of B,at_ j (by simp),?_}};rw[JA]at this;show {_,_,9,9,this}
  ·rw[decide_eq_false hc]at this ⊢
   rw[Jw]at this;show aO this
inductive jA(C:mu)(vs:7 V)(H:Hp)(Q:VK)(u3:XK):Prop
 | mk (p dx:mu) (i j k:3):vs=[.ref p,.int i,.int j,.int k]->H p=!.ins C dx []->(∀H',H' p=!.ins C dx (DH i j k)->(∀c o,H c=!o->c≠p->H' c=!o)->Q .non H')->jA C vs H Q u3
def jB:al ["self", "first", "second", "third"] ["self", "first", "second", "third"] (ah ko):=by o_head AA
def BI(T:Tx K mg Z):lQ P w K mg base bu 1 "Thrice" Z.aN ["self", "first", "second", "third"] (jA Z.aN):=by
 o_head (AD T.c7 T.eL jB)
 let(p,r,i,j,k,9,hp,y):=h
 o_head (AE jB (j (F 0 1) (j (F 0 2) (k (F 0 03)))))
 show ⟨_,9,_,9,p,_,r,_,9,hp,T.c8,T.c9,(by show 0<1000;decide),?_⟩;show ⟨_,9,_,9,p,_,r,_,9,aa,T.c8,T.dA,(by show 1<1000;decide),?_⟩;show ⟨_,9,_,9,p,_,r,_,9,aa,T.c8,T.dB,(by show 2<1000;decide),?_⟩;rw[x9];show y _ aa λc o e hc=>?_;rw[af hc,af hc,af hc];show e
inductive iM(C:mu)(vs:7 V)(H:Hp)(Q:VK)(u3:XK):Prop
 | mk (p tA:mu) (i j k:3) (O:7 3):vs=[.ref p,.ref tA]->He C H p i j k->H tA=!.lst (O.map V.int)->O.length<64->(∀H',ag H H'->Q (.bl (pG O i j k)) H')->iM C vs H Q u3
def iN:al ["self", "order"] ["self", "order"] (ah iZ):=by o_head AA
def m_Thrice_shows(T:Tx K mg Z):cM P w K mg base bu 07 Z.aN "shows" ["self", "order"] (iM Z.aN):=by
 o_head (AC T.c8 T.eM iN)
 let(p,tA,i,j,k,M,9,(I,fs,h1,h2,h3,h4,h5),hT,hz,kQ):=h
 o_head (AE iN (j (q (w (s (r (b7 T) (l (z (l (m 0) (l (m 0) (l (m 0) a)))) (l 1 a))))) (k (n e)) d) (k (n (xP cL cL (v 1 (m 0)) (v 1 (m 0)) (v 1 (m 0)))))))
 show {_,9,p,_,I,_,_,9,h1,T.c8,T.c9,h2,_,9,p,_,I,_,_,9,h1,T.c8,T.dA,h3,_,9,p,_,I,_,_,9,h1,T.c8,T.dB,h4,?_};show ⟨(by show 03<=sizeLine;decide),λl hl=>?_⟩;have s1:=ag.upd (o:=.lst [.int i,.int j,.int k]) hl;show ⟨_,9,l,tA,[i,j,k],_,9,aa,(by show 03<=1000;decide),s1 _ _ hT,λH1 s2=>{_,9,?_}⟩;have y:=s1.trans s2;have B:=y _ _ hT;rw[lj];cases C:bw M.length (-1) [i,j,k] with
 | false=>
  show bC ?_;have:=kQ H1 y;unfold pG at this;rw[C,Jw]at this;show this
 | true=>
  show aO ?_;have ab:ub M.length [i,j,k]=6:=by
   have:=C;rw[ji,Jf]at this;show this.1
  have at_:∀z,z∈[i,j,k]->oh (M.map V.int) z=!.int (M.getD z.toNat 0):=λz ac=>by
   let(a1,a2):=ln ab ac;have e:z=(z.toNat:3):=()
   rw[e];show aq ?_;rw[Ji,r6,li (),oa,li ()];rfl
  have g1:=y _ _ h1;show {_,9,_,9,p,_,I,_,_,9,g1,T.c8,T.dA,h3,.inl {tA,_,j,_,9,9,ak.of B,at_ j (by simp),?_}};show {_,9,_,9,p,_,I,_,_,9,g1,T.c8,T.dB,h4,.inl {tA,_,k,_,9,9,ak.of B,at_ k (by simp),?_}};have:=kQ H1 y;unfold pG at this;rw[C,JA]at this;show {_,_,9,9,_,9,?_}
  by_cases hc:M.getD j.toNat 0<M.getD k.toNat 0
  ·rw[decide_eq_true hc]at this ⊢
   show bC {_,9,_,9,p,_,I,_,_,9,g1,T.c8,T.c9,h2,.inl {tA,_,i,_,9,9,ak.of B,at_ i (by simp),?_}};rw[JA]at this;show {_,_,9,9,this}
  ·rw[decide_eq_false hc]at this ⊢
   rw[Jw]at this;show aO this
end My
namespace My
open PySem L2
open PySem.W (Dat)
def wd(x:xD):Prop:=x.length<=100/\PyData.strOk x=6
def yc:wd (rd "in"):=⟨by decide +kernel,by decide +kernel⟩
def vO:wd (rd "out"):=⟨by decide +kernel,by decide +kernel⟩
def Sm(gs:7 Gm):Prop:=∀g∈gs,wd g.1
def Hy(n:4){g:Gm}(h:wd g.1):kqdOk (n+1) (dG g)=6:=AU λd a=>by
 simp only[Jb,Lf,or_false]at a;let 9||9:=a
 ·unfold kqdOk
  show h.2
 ·unfold kqdOk
  rfl
def Sm.app{a b:7 Gm}(h:Sm a)(k:Sm b):Sm (a++b):=λg e=>(Jc.mp e).elim (h g) (k g)
def Sm.one{g:Gm}(h:wd g.1):Sm [g]:=λx a=>by rw[Jj.mp a];show h
def ay.push{H:Hp}{b t:mu}{gs:7 Gm}(g:Gm)(h:ay H b gs)(j:H t=8):∃a:7 mu,H b=!.lst (a.map V.ref)/\a.length=gs.length /\
  ay (upd (upd H t (.tup [.str g.1,.int g.2])) b (.lst (a.map V.ref++[.ref t]))) b (gs++[g]):=by
 let(a,e,p):=h;have i:t≠b:=(ae e j).symm;show ⟨a,e,p.length,a++[t],by rw[aa,v0];rfl,Paired.snoc' (Paired.imp (λr m z=>?_) p) ?_⟩
 ·have n:H r=!.tup _:=z
  show upd _ _ _ r=_;rw[af (bh n e (by intro q;cases q))];show aj n j
 ·show upd _ _ _ t=_
  rw[af i,aa]
inductive uC  (vs:7 V) (H:Hp) (Q:VK) (u3:XK):Prop
 | mk (l:mu) (z:3) (la:7 3):vs=[.ref l,.int z]->H l=!.lst (la.map V.int)->(∀r:4,r<=la.length->Q (.int (r:3)) H)->uC  vs H Q u3
def dE:al ["falling", "wagon", "low", "high", "middle"] ["falling", "wagon"] (ah dY):=by o_head AA
def kh(T:Tx K mg Z):fU P w K mg base bu 1 "first_of_a_lesser" ["falling", "wagon"] uC:=by
 o_head (AB T.bE dE)
 let(l,z,B,9,I,kQ):=h
 o_head (AE dE (j (o 2 c) (j (o 03 (t (l 0 a))) (j (Y (xH 2 03) (j (o 04 (xv (R 2 03) c)) (k (q (xH (v 0 04) 1) (k (o 03 04)) (k (o 2 (R 04 c))))))) (k (n 2))))))
 show {_,9,_,_,9,.inl {_,ak.of I,9},?_}
 let W:Nat->St->Hp->Prop:=λm σ H1=>∃(lo hi:4) (v:Option V),m=hi-lo/\H1=H/\σ=[!.ref l,!.int z,!(.int (lo:3)),!(.int (hi:3)),v]/\lo<=hi/\hi<=B.length
 show ⟨W,⟨_,0,B.length,8,9,9,by rw[lj];rfl,Jd _,oN _⟩,?_⟩;rintro m σ H1 ⟨lo,hi,v,rfl,rfl,rfl,h1,h2⟩;show {_,9,_,9,_,_,9,9,_,9,?_};show dw (λr=>?_) λr=>?_
 ·show {λp C=>∃M,M<hi-lo/\W M p C,λp C q=>q,?_}
  show ⟨_,9,_,9,.inl ⟨_,_,9,9,_,2,9,9,(by unfold GE;decide),?_⟩⟩;let(e,y):∃e:Nat,((lo:Int)+(hi:Int))/2=(e:Int):=⟨(((lo:3)+(hi:3))/2).toNat,()⟩
  try dsimp only
  rw[y];show ⟨_,9,_,9,.inl ⟨l,_,(e:3),.int (B.getD e 0),9,9,ak.of I,aq (by rw[r6,oa,li ()];rfl),_,9,_,_,9,9,_,9,?_⟩⟩;show dw (λhx=>?_) λhx=>?_
  ·show {_,9,e-lo,(),lo,e,_,9,9,9,(),()}
  ·show {_,9,.inl {_,1,9,9,hi-(e+1),(),e+1,hi,_,9,9,9,(),h2}}
 ·show {_,9,kQ lo ()}
inductive rq  (vs:7 V) (H:Hp) (Q:VK) (u3:XK):Prop
 | mk (a:mu) (T:7 3):vs=[.ref a]->H a=!.lst (T.map V.int)->T.length<64->(∀(l:mu) (H':Hp) (tr:7 3),ag H H'->H l=8->tr.length=T.length->H' l=!.lst (tr.map V.int)->Q (.ref l) H')->rq  vs H Q u3
def fK:al ["wagons", "tracks", "last_ones", "wagon", "track"] ["wagons"] (ah gg):=by o_head AA
def m9(T:Tx K mg Z):fU P w K mg base bu 2 "tracks_through" ["wagons"] rq:=by
 o_head (AB T.bD fK)
 let(a,tr,9,ha,hz,k):=h
 o_head (AE fK (j (o 1 (z a)) (j (o 2 (z a)) (j (B (I 0) (U 03) (j (o 04 (r (kh T) (l 2 (l 03 a)))) (j (q (xF 04 (t (l 2 a))) (k (p (D 2 (l 03 a)))) (k (Z 03 (xZ 2 04)))) (k (p (D 1 (l 04 a))))))) (k (n 1))))))
 show {Jd _,λt ht=>{Jd _,λl hl=>?_}};have ab:t≠l:=ae aa hl;have s0:ag H (upd (upd H t (.lst [])) l (.lst [])):=(ag.upd ht).trans (ag.upd hl);have aA:H l=8:=(ag.upd ht).free hl
 let ap:Nat->St->Hp->Prop:=λi σ C=>(∃v3 v4,σ=[!.ref a,!.ref t,!.ref l,v3,v4])/\ag H C/\∃ts M:7 3,C t=!.lst (ts.map V.int)/\C l=!.lst (M.map V.int)/\ts.length=i/\M.length<=i
 show ⟨_,9,a,9,{_,ak.of (s0 _ _ ha)},aT (K:=K) (a:=a) (xs:=tr.map V.int) ap
  ⟨{_,_,9},s0,[],[],by rw[af ab,aa];rfl,aa,9,oN _⟩ (λi σ C _ h=>ak.of (h.2.1 _ _ ha)) ?_ ?_⟩
 ·rintro i x σ C hx ⟨⟨v3,v4,rfl⟩,s2,ts,M,h1,h2,e1,e2⟩
  let(z,ez,9):=aK hx;have hi:i<tr.length:=(op.mp ez).1;show {_,9,_,9,l,z,_,9,h2,λr a0=>?_};have out:∀{X:HO},upd C l X t=!.lst (ts.map V.int):=(af ab).trans h1;have zt:(ts.map V.int).length<sizeLine:=by rw[lj];show am ()
  show {_,9,_,9,_,_,9,.inl {_,ak.of h2,9},.inl {9,_,9,?_}};rw[lj];have ac:∀y:7 3,y.length<=i+1->ag H (upd (upd C l (.lst (y.map V.int))) t (.lst (ts.map V.int++[.int (r:3)])))/\∃an M:7 3,upd (upd C l (.lst (y.map V.int))) t (.lst (ts.map V.int++[.int (r:3)])) t=!.lst (an.map V.int)/\upd (upd C l (.lst (y.map V.int))) t (.lst (ts.map V.int++[.int (r:3)])) l=!.lst (M.map V.int)/\an.length=i+1/\M.length<=i+1:=λy aC=>
   ⟨ag.updN (ag.updN s2 aA) ht,ts++[(r:3)],y,by rw[aa,v0];rfl,by rw[af (JP ab),aa],by rw[sB,e1];rfl,aC⟩
  show dw (λhq=>?_) λhq=>?_
  ·show ⟨_,9,.inl {9,_,ak.of h2},_,9,l,_,_,9,9,h2,by rw[lj];show am (),?_⟩
   show {_,9,.inl {9,_,ak.of out},_,9,t,_,_,9,9,out,zt,{_,_,9},?_};rw[show M.map V.int++[.int z]=(M++[z]).map V.int from by rw[v0];rfl];show ac _ (by rw[sB,KS];omega)
  ·show ⟨_,9,_,9,_,9,l,_,_,r,9,9,h2,fB (by rw[lj];have:r≠M.length:=λe=>hq (by rw[e]);omega),?_⟩
   show {_,9,.inl {9,_,ak.of out},_,9,t,_,_,9,9,out,zt,{_,_,9},?_};rw[<- Ma];show ac _ (by rw[Kd];omega)
 ·rintro σ C ⟨⟨v3,v4,rfl⟩,s2,ts,M,h1,h2,e1,e2⟩
  rw[lj]at e1;show {_,9,k t C ts s2 ht e1 h1}
inductive fY  (vs:7 V) (H:Hp) (Q:VK) (u3:XK):Prop
 | mk (a:mu) (z:3) (tr:7 3):vs=[.ref a,.int z]->H a=!.lst (tr.map V.int)->tr.length<64->(∀(l:mu) (H':Hp) (ps:7 3),ag H H'->H l=8->H' l=!.lst (ps.map V.int)->ps.length<=63->Q (.ref l) H')->fY  vs H Q u3
def fZ:al ["tracks", "track", "places", "wanted", "place"] ["tracks", "track"] (ah lL):=by o_head AA
def sO(T:Tx K mg Z):fU P w K mg base bu 1 "falling_to" ["tracks", "track"] fY:=by
 o_head (AB T.bG fZ)
 let(a,z,C,9,ha,hz,kQ):=h;refine' {_,?hterm,?_}
 case hterm=>
  have c:=fZ;refine' ai ?q1 ?q2
  case q1=>o_head (o 2 (z a))
  case' q2=>refine' ai ?q4 ?q5
  case q4=>o_head (o 03 1)
  case' q5=>refine' ai ?q6 ?q7
  case q6=>
   refine' gS HP 9 ?q8 ?q9 ?M
   case q8=>
    refine' Dh 9 T.aM ?ab
    case ab=>o_head (l (xt (t (l 0 a)) c) (l (y c) (l (y c) a)))
   case q9=>o_head (U 04)
   case' M=>refine' ax ?ac
   case' ac=>refine' cb ?an ?ap a9
   case an=>o_head (xF (v 0 04) 03)
   case' ap=>refine' ai ?aA ?aC
   case aA=>o_head (p (D 2 (l 04 a)))
   case' aC=>refine' ax ?a0
   case a0=>show zV (i:=03) fZ.nd 9 (OZ 9) fR EI
  case' q7=>refine' ax ?a1
  case' a1=>refine' fS ?a2
  case a2=>show pI (pv 2) 9 (by rfl) T.aI (by rfl) T.aN
 show {Jd _,λp hp=>?_};have s0:ag H (upd H p (.lst [])):=ag.upd hp;show ⟨_,9,_,9,_,_,9,.inl {_,ak.of (s0 _ _ ha),9},_,1,9,9,1,9,1,9,C.length,by rw[lj],(),?_⟩
 let I:Nat->St->Hp->Prop:=λi σ B=>∃(ps:7 3) (wd:3) (v:Option L2.V),σ=[!.ref a,!.int z,!.ref p,!.int wd,v]/\ag H B/\B p=!.lst (ps.map V.int)/\ps.length+i<=C.length
 show Bt (n:=C.length) I
  ⟨[],z,8,9,s0,aa,by simp⟩ ?_ ?_
 ·rintro i σ B hi ⟨ps,wd,v,rfl,e,j,hl⟩
  show ⟨_,9,_,9,.inl ⟨a,_,(i:3),.int (C.getD i 0),9,9,ak.of (e _ _ ha),aq (by rw[r6,oa,li hi];rfl),_,9,.inl {9,_,9,?_}⟩⟩;show dw (λhq=>?_) λhq=>?_
  ·show ⟨_,9,.inl {9,_,ak.of j},_,9,p,_,_,9,9,j,by rw[lj];show am (),?_⟩
   show ⟨_,9,_,1,9,9,ps++[(i:3)],wd-1,_,9,ag.updN e hp,by rw[aa,v0];rfl,by rw[sB,KS];omega⟩
  ·show {ps,wd,_,9,e,j,()}
 ·rintro σ B ⟨ps,wd,v,rfl,e,j,hl⟩
  show ⟨_,9,p,_,9,j,λl r=>kQ l _ ps.reverse (e.trans (ag.upd r)) (e.free r) (by rw[aa,Oo]) (by rw[Kt];omega)⟩
inductive gI(Z:Adr)(vs:7 V)(H:Hp)(Q:VK)(u3:XK):Prop
 | mk (a t:mu) (T tr:7 3):vs=[.ref a,.ref t]->H a=!.lst (T.map V.int)->H t=!.lst (tr.map V.int)->tr.length=T.length->T.length<64->ow Z H->(∀(l:mu) (H':Hp) (gs:7 Gm),ag H H'->H l=8->ay H' l gs->Sm gs->gs.length<=200->Q (.ref l) H')->gI Z vs H Q u3
def gJ:al ["wagons", "tracks"] ["wagons", "tracks"] (ah cq):=by o_head AA
def oy(T:Tx K mg Z):fU P w K mg base bu 04 "moves_through" ["wagons", "tracks"] (gI Z):=by
 o_head (AB T.bF gJ)
 let(a,t,tT,tr,9,ha,ht,ac,hz,ab,kQ):=h
 o_head (AE gJ (k (n (R (V cq ["wagons", "tracks"] [none] ["track"] (I 1) (W 0 ["track"]) (A (l f (l 0 a)))) (V cq ["wagons", "tracks"] [none,some 1] ["place", "tracks"] (I (r (fJ T) (l 0 a))) (W 0 ["place", "tracks"]) (A (l f (l (v 1 0) a))))))))
 show {_,9,t,9,{_,ak.of ht},λp hp=>?_}
 let an:Nat->St->Hp->Prop:=λi σ C=>(∃v,σ=[v])/\ag H C/\∃gs,ay C p gs/\gs.length=i/\Sm gs
 show aW (K:=K) (a:=t) (xs:=tr.map V.int) an
  {{_,9},ag.upd hp,[],{[],aa,.nil},9,λg j=>by cases j} (λi σ C _ h=>ak.of (h.2.1 _ _ ht)) ?_ ?_
 ·rintro i x σ C hx ⟨⟨v,rfl⟩,s2,gs,h2,j,hS⟩
  let(z,ez,9):=aK hx;have hi:=(op.mp ez).1;show ⟨_,9,(by show 2<=sizeLine;decide),λr e=>?_⟩;let(rs,e1,e2,e3):=ay.push (rd "in",z) h2 e;show ⟨_,aj e1 e,by rw[lj,e2];show am (),{_,9},ag.updN (s2.trans (ag.upd e)) hp,_,e3,by rw[sB,j];rfl,hS.app (.one yc)⟩
 rintro σ C ⟨_,s2,g1,⟨a3,e1,p1⟩,a0,aA⟩;rw[lj]at a0;show {_,9,a,tT,9,s2 _ _ ha,(),ab.same s2,λo H3 ord s3 f3 hR h3=>?_};have ho:ord.length=tT.length:=by rw[hR.perm.length_eq,Jv]
 show {o,9,{_,ak.of h3},λq hq=>?_};have y:=s2.trans s3
 let ap:Nat->St->Hp->Prop:=λi σ M=>(∃v,σ=[v,!.ref t])/\ag H3 M/\∃gs,ay M q gs/\gs.length=i/\Sm gs
 show aW (K:=K) (a:=o) (xs:=aH ord) ap
  {{_,9},ag.upd hq,[],{[],aa,.nil},9,λg j=>by cases j} (λi σ M _ h=>ak.of (h.2.1 _ _ h3)) ?_ ?_
 ·rintro i x σ M hx ⟨⟨v,rfl⟩,B,gs,h4,j,hS⟩
  let(z,ez,9):=aK hx;have hi:=(op.mp ez).1;have a2:z<tr.length:=by rw[ac];show hR.ord.lt ez
  show ⟨_,9,_,9,.inl ⟨t,_,(z:3),.int (tr.getD z 0),9,9,ak.of (B _ _ (y _ _ ht)),aq ?_,(by show 2<=sizeLine;decide),λr e=>?_⟩⟩
  ·rw[r6,oa,li a2]
   rfl
  let(rs,f1,f2,f3):=ay.push (rd "out",tr.getD z 0) h4 e;show ⟨_,aj f1 e,by rw[lj,f2];show am (),{_,9},ag.updN (B.trans (ag.upd e)) hq,_,f3,by rw[sB,j];rfl,hS.app (.one vO)⟩
 rintro σ M ⟨_,B,g2,⟨a4,e2,p2⟩,a1,aC⟩;rw[lj]at a1;have l1:=Paired.length p1;have l2:=Paired.length p2;show .inr (.inl {p,q,_,_,9,9,B _ _ (s3 _ _ e1),e2,?_,λu hu=>?_})
 ·rw[lj,lj]
  show Jh (am ())
 show kQ u _ (g1++g2) ((y.trans B).trans (ag.upd hu)) ((y.trans B).free hu) ⟨a3++a4,by rw[aa,v0],Paired.append (Paired.imp (λr m z=>?_) p1) (Paired.imp (λr m z=>?_) p2)⟩ (aA.app aC) (by rw[sB];omega)
 ·show aj (B _ _ (s3 _ _ z)) hu
 ·show aj z hu
inductive rB(Z:Adr)(vs:7 V)(H:Hp)(Q:VK)(u3:XK):Prop
 | mk (a:mu) (T:7 3):vs=[.ref a]->H a=!.lst (T.map V.int)->T.Nodup->T.length<64->ow Z H->(∀(p mA pA:mu) (gs:7 Gm) (ps:7 3) (H':Hp),ag H H'->vw Z.aL H' p mA pA gs ps->Sm gs->gs.length<=200->ps.length<=63->Q (.ref p) H')->rB Z vs H Q u3
def rD:al ["train", "wagons", "tracks"] ["train"] (ah tq):=by o_head AA
def BJ(T:Tx K mg Z):fU P w K mg base bu 07 "fewest" ["train"] (rB Z):=by
 o_head (AB T.bC rD)
 let(a,tr,9,ha,ap,hz,I,k):=h;refine' {_,?hterm,?_}
 case hterm=>
  have c:=rD;refine' ai ?q1 ?q2
  case q1=>o_head (o 1 (r (iD T) (l 0 a)))
  case' q2=>refine' ai ?q5 ?q6
  case q5=>o_head (o 2 (r (m9 T) (l 1 a)))
  case' q6=>refine' ax ?q9
  case' q9=>refine' fS ?a1
  case' a1=>refine' tR (pS T) (hr.mono (by decide)) 9 ?a2
  case' a2=>refine' aD ?a3 ?a4
  case a3=>o_head (r (oy T) (l 1 (l 2 a)))
  case' a4=>refine' aD ?a5 cz
  case' a5=>refine' pi (sO T) (hr.mono (by decide)) 9 ?a6
  case' a6=>refine' aD (pv 2) ?a7
  case' a7=>refine' aD ?a8 cz
  case' a8=>refine' Dl (K:=K) (by rfl) (by rfl) (by rfl) T.aJ (pv 2) ?bb
  case bb=>o_head (y c)
 show {_,9,a,tr,9,ha,(),ap,λwA H1 s1 f1 h1=>?_};show {_,9,wA,tr,9,h1,hz,λt H2 ts s2 f2 aC h2=>?_};have M:=s1.trans s2;show {_,9,_,9,wA,t,tr,_,9,s2 _ _ h1,h2,aC,hz,I.same M,λm H3 gs s3 f3 hM hS an=>?_};have C:=s3 _ _ h2;let(rs,em,pm):=hM;have B:∀z,fY [.ref t,.int z] H3 (λv p=>∀x j,p x=8->p j=8->j≠x->fg Z.aL [.ref x,.ref m,v] (upd (upd p j (.own x)) x (.ins Z.aL j [])) (λv H5=>v=.non/\Q (.ref x) H5) E0) E0:=by
  show λz=>{t,z,ts,9,C,(),λq p ps s4 fq hq aA x j hx ac _=>?_};have ab:=s4 _ _ em;have to:∀{c:mu} {o:HO},p c=!o->upd (upd p j (.own x)) x (.ins Z.aL j []) c=!o:=λ{c o} e=>by rw[af (ae e hx),af (ae e ac)];show e
  show {x,j,m,q,rs.map V.ref,ps.map V.int,9,aa,to ab,to hq,λu v fs H' hu hv a0 e1 e2 e3 e4 e5 e6 kept=>{9,?_}};have s5:ag p H':=λc o e=>kept c o (to e) (ae e hx);show k x u v gs ps H' (((M.trans s3).trans s4).trans s5) {j,fs,e1,e2,e3,e4,{rs,e5,Paired.imp (λr m z=>s5 _ _ (s4 _ _ z)) pm},e6,a0} hS an aA
 show {_,9,_,9,1,9,t,ts,-1,9,9,ak.of C,λ_=>B _,λz _ _=>B _}
def IL(n:4)(H:Hp)(x:V):Prop:=∃(a:mu) (ps:7 3),x=.ref a/\H a=!.lst (ps.map V.int)/\ps.length<=n
def PR(n:4)(H:Hp)(x:V):Prop:=∃t a b,x=.ref t/\H t=!.tup [.ref a,.ref b]/\IL n H (.ref a)/\IL n H (.ref b)
def LR(R:Hp->V->Prop)(k:4)(H:Hp)(x:V):Prop:=∃a xs,x=.ref a/\H a=!.lst xs/\xs.length<=k/\∀y∈xs,R H y
def IV(H:Hp)(x:V):Prop:=∃i:3,x=.int i
def IL.same{n:4}{H i:Hp}{x:V}(s:ag H i)(h:IL n H x):IL n i x:=let ⟨a,ps,e,b,c⟩:=h;{a,ps,e,s _ _ b,c}
def IL.le{n m:4}{H:Hp}{x:V}(l:n<=m)(h:IL n H x):IL m H x:=let ⟨a,ps,e,b,c⟩:=h;{a,ps,e,b,xM c l}
def PR.same{n:4}{H j:Hp}{x:V}(s:ag H j)(h:PR n H x):PR n j x:=let ⟨t,a,b,e,f,g,i⟩:=h;{t,a,b,e,s _ _ f,g.same s,i.same s}
def mo{ps:7 3}:∀{ys:7 V},(∀y∈ys,y∈ps.map V.int)->∃qs:7 3,ys=qs.map V.int
 | [],_=>⟨[],9⟩
 | y::r,h=>by
  let(qs,e):=mo (ys:=r) λz b=>h z (wh _ b);let(i,_,a):=Li.mp (h y vr);show ⟨i::qs,by rw[e,<- a];rfl⟩
def Gd(R:Hp->V->Prop)(σ:St)(b:Hp)(te:TE):Prop:=∀(H:Hp) (Q:VK),ag b H->(∀x a,ag H a->R a x->Q x a)->te σ H Q
def F6(R:Hp->V->Prop)(σ:St)(b:Hp)(k:4)(c:TA):Prop:=∀(H:Hp) (Q:7 V->Hp->Prop),ag b H->(∀xs a,ag H a->xs.length=k->(∀x∈xs,R a x)->Q xs a)->c σ H Q
def Pt(σ:St)(t:TO):Prop:=∀(H:Hp) (Q:Option 3->Hp->Prop),(∀l,Q l H)->t σ H Q
section
variable {σ:St} {H0:Hp} {n m k i:4} {te ta tb:TE} {tl th:TO}
def dF:Pt σ wo:=λ_ _ h=>h _
def pT{j:3}:Pt σ (wq (tC (.int j))):=λ_ _ h=>{_,9,h _}
def BK{j:3}:Pt σ (wq (HI (rU λi=>V.int (-i)) (tC (.int j)))):=λ_ _ h=>{_,9,_,9,h _}
def bI{x:V}(e:σ[i]?=!!x)(h:IL n H0 x):Gd (IL n) σ H0 (gi i):=λH Q s k=>{_,e,k _ H (ag.refl _) (h.same s)}
def bz(l:n<=m)(h:Gd (IL n) σ H0 te):Gd (IL m) σ H0 te:=λH Q s k=>h H Q s λx a s' r=>k x a s' (r.le l)
def fL(h:Gd (IL n) σ H0 te)(d:Pt σ tl)(f:Pt σ th):Gd (IL n) σ H0 (Iq (An K) te tl th):=λH Q s k=>h H _ s λx H1 o r=>d H1 _ λl=>f H1 _ λu=>by
 let(a,ps,e,c,q):=r;show {a,_,e,ak.of c,λp hp=>k _ _ (o.trans (ag.upd hp)) ?_};let(qs,b):=mo (ps:=ps) (ys:=dm (ps.map V.int) l u) λy j=>Lz (K8 j);have:=i6 (ps.map V.int) l u;rw[b,lj,lj]at this;show ⟨p,qs,9,by rw[aa,b],()⟩
def ni(h:Gd (IL n) σ H0 ta)(j:Gd (IL m) σ H0 tb)(q:n+m<=900):Gd (IL (n+m)) σ H0 (wc (wH K) ta tb):=λH Q s k=>h H _ s λx H1 c r=>j H1 _ (s.trans c) λy p d o=>by
 let(a,ps,9,e,t):=r;let(b,qs,9,f,u):=o;show .inr (.inl ⟨a,b,_,_,9,9,d _ _ e,f,by rw[lj,lj];show Jh (am ()),λx l=>k _ _ ((c.trans d).trans (ag.upd l)) ⟨x,ps++qs,9,by rw[aa,v0],by rw[sB];omega⟩⟩)
def vP(h:Gd (IL n) σ H0 te)(d:Pt σ tl):Gd (IL n) σ H0 (Ha K te tl (wq (HI (rU λi=>V.int (-i)) (tC (.int 1))))):=λH Q s k=>h H _ s λx H1 j r=>d H1 _ λl=>by
 let(a,ps,e,c,o):=r;show {_,9,_,9,9,a,_,e,ak.of c,λp hp=>k _ _ (j.trans (ag.upd hp)) ?_};let(qs,b):=mo (ps:=ps) (ys:=si (ps.map V.int) l) λy f=>K8 (M8.mp f);have:(si (ps.map V.int) l).length<=ps.length:=by
  unfold si;rw[Kt,Jn,lj];omega
 rw[b,lj]at this;show ⟨p,qs,9,by rw[aa,b],()⟩
def sP{a:mu}{ns:7 3}{o:TE}{j:4}(h:Gd (IL n) σ H0 o)(q:σ[j]?=!!.ref a)(t:ak K H0 a (ns.map V.int))(v:ns.length<=63)(A:n<=300):Gd (IL (n+63)) σ H0 (tJ (oV K) [] E0 (eZ o (eZ (gi j) n9))):=λH Q s k=>h H _ s λx H1 f r=>by
 let(b,ps,9,u,z):=r;show ⟨_,q,b,a,ps.map V.int,ns,9,u,λx y=>?_,by rw[lj];omega,(s.trans f).seq t,v,λl p ys s' _ e d c=>k _ p (f.trans s') ?_⟩
 ·let(i,_,9):=Li.mp y
  show ⟨_,.int i,λn=>by unfold kqdOk;rfl⟩
 ·let(qs,9):=mo d
  rw[lj,lj]at c;show {l,qs,9,e,()}
def cG(h:Gd (IL n) σ H0 ta)(j:Gd (IL n) σ H0 tb):Gd (PR n) σ H0 (GN (eZ ta (eZ tb n9))):=λH Q s k=>h H _ s λx H1 e r=>j H1 _ (s.trans e) λy p f d=>⟨(by show 2<=sizeLine;decide),λt l=>by
 have c:=ag.upd (o:=.tup [x,y]) l;let(a,ps,9,q,v):=id r;let(b,qs,9,u,z):=id d;show k _ _ ((e.trans f).trans c) {t,a,b,9,aa,(r.same f).same c,d.same c}⟩
def b8{R:Hp->V->Prop}:F6 R σ H0 0 n9:=λH Q s k=>k [] H (ag.refl _) 9 λx a=>by cases a
def au{R:Hp->V->Prop}{d:TA}(mono:∀{H a x},ag H a->R H x->R a x)(f:Gd R σ H0 ta)(hr:F6 R σ H0 k d):F6 R σ H0 (k+1) (eZ ta d):=λH Q s o=>f H _ s λx H1 b r=>hr H1 _ (s.trans b) λxs e c h j=>o (x::xs) e (b.trans c) (by rw[vl,h]) λy l=>by
 let 9||z:=Jb.mp l
 ·show mono c r
 ·show j y z
def ij{R:Hp->V->Prop}{b:TA}(mono:∀{H a x},ag H a->R H x->R a x)(h:F6 R σ H0 k b)(l:k<=900):Gd (LR R k) σ H0 (Af b):=λH Q s f=>h H _ s λxs H1 j c d=>⟨by rw[c];show Jh (am ()),λp hp=>f _ _ (j.trans (ag.upd hp)) {p,xs,9,aa,(),λy e=>mono (ag.upd hp) (d y e)}⟩
def vQ{R:Hp->V->Prop}{i:4}{x:V}{f:TA}(mono:∀{H d x},ag H d->R H x->R d x)(e:σ[i]?=!!x)(o:LR R m H0 x)(h:F6 R σ H0 k f)(v:m+k<=900):Gd (LR R (m+k)) σ H0 (wc (wH K) (gi i) (Af f)):=λH Q s t=>⟨_,e,ij (R:=R) (k:=k) mono h () H _ s λy H1 c r=>by
 let(a,xs,9,j,A,q1):=o;let(b,ys,9,l,B,u):=r;show .inr (.inl ⟨a,b,_,_,9,9,c _ _ (s _ _ j),l,Jh (am ()),λp hp=>t _ _ (c.trans (ag.upd hp)) ⟨p,xs++ys,9,aa,by rw[sB];omega,λy q=>?_⟩⟩);let z||z:=Jc.mp q
 ·show mono ((s.trans c).trans (ag.upd hp)) (q1 y z)
 ·show mono (ag.upd hp) (u y z)⟩
def SL(n:4)(H:Hp)(x:V):Prop:=∃(a:mu) (ps:7 3),x=.ref a/\ak K H a (ps.map V.int)/\ps.length<=n
def BL(h:Gd (IL n) σ H0 te):Gd (SL n) σ H0 te:=λH Q s k=>h H Q s λx d s' r=>let ⟨a,ps,e,b,c⟩:=r;k x d s' {a,ps,e,ak.of b,c}
def mq{cap:7 (Option 4)}{vs:St}(t:Gd (SL n) σ H0 ta)(A:n<=900)(hc:rV cap σ=8::vs)(q:∀(i:3) (H:Hp) (Q:VK),(∀j:3,Q (.int j) H)->te (some (.int i)::vs) H Q):Gd (IL n) σ H0 (nH (zX K ta) cap (kD 0) GT te):=λH Q s k=>t H _ s λx H1 y r=>by
 let(a,ps,e,sq,hp):=r;show {a,e,{_,sq},λp hp=>?_};rw[hc]
 let c:Nat->St->Hp->Prop:=λi σ b=>(∃v,σ=v::vs)/\ag H1 b/\∃qs:7 3,b p=!.lst (qs.map V.int)/\qs.length=i
 show aW (K:=K) (a:=a) (xs:=ps.map V.int) c {⟨8,9⟩,ag.upd hp,[],aa,9} (λi σ b _ h=>h.2.1.seq sq) ?_ ?_
 ·rintro i x σ b u ⟨⟨v,rfl⟩,l,qs,d,f⟩
  let(z,o,9):=aK u;have hi:=(op.mp o).1;show q z b _ λj=>⟨_,d,by rw[lj];show am (),{_,9},ag.updN l hp,qs++[j],by rw[aa,v0];rfl,by rw[sB,f];rfl⟩
 ·rintro σ b ⟨_,l,qs,d,f⟩
  rw[lj]at f;show k _ b (y.trans l) {p,qs,9,d,()}
def BM{j:4}(h:Gd (IL 1) σ H0 ta)(t:∀(H:Hp) (Q:VK),ag H0 H->Q (.int (j:3)) H->tb σ H Q)(z:j<=900):Gd (IL j) σ H0 (wc Ec ta tb):=λH Q s k=>h H _ s λx H1 f r=>t H1 _ (s.trans f) (by
 let(a,ps,e,q,u):=r;have b:(ra j (ps.map V.int)).flatten.length<=j:=by
  rw[rR,lj];show xM (Nat.mul_le_mul_left j u) ()
 show .inr {a,(j:3),_,e,9,q,(),(),?_,λp hp=>k _ _ (f.trans (ag.upd hp)) ?_}
 ·rw[rR]at b
  rw[Ji,Nat.mul_comm];show xM b (Jh (am ()))
 ·rw[Ji]
  let(qs,c):=mo (ps:=ps) (ys:=(ra j (ps.map V.int)).flatten) λy v=>by
   let(l,o,d):=List.mem_flatten.mp v;rw[List.eq_of_mem_replicate o]at d;show d
  rw[c,lj]at b;show ⟨p,qs,9,by rw[aa,c],b⟩)
def ML(n:4)(H:Hp)(x:V):Prop:=∃(a:mu) (gs:7 Gm),x=.ref a/\ay H a gs/\Sm gs/\gs.length<=n
def ML.same{n:4}{H j:Hp}{x:V}(s:ag H j)(h:ML n H x):ML n j x:=let ⟨a,gs,e,b,c⟩:=h;{a,gs,e,b.same s,c}
def ML.le{n m:4}{H:Hp}{x:V}(l:n<=m)(h:ML n H x):ML m H x:=let ⟨a,gs,e,b,c,d⟩:=h;{a,gs,e,b,c,xM d l}
def sQ{x:V}(e:σ[i]?=!!x)(h:ML n H0 x):Gd (ML n) σ H0 (gi i):=λH Q s k=>{_,e,k _ H (ag.refl _) (h.same s)}
def yd(l:n<=m)(h:Gd (ML n) σ H0 te):Gd (ML m) σ H0 te:=λH Q s k=>h H Q s λx a s' r=>k x a s' (r.le l)
def uD{H:Hp}{c:7 mu}{gs:7 Gm}(hp:Paired (uO H) c gs)(d:Sm gs):∀{ys:7 V},(∀y∈ys,y∈c.map V.ref)->∃(qs:7 mu) (hs:7 Gm),ys=qs.map V.ref/\Paired (uO H) qs hs/\Sm hs/\hs.length=ys.length
 | [],_=>⟨[],[],9,.nil,λg b=>(by cases b),9⟩
 | y::r,h=>by
  let(qs,hs,e,p,q,l):=uD hp d (ys:=r) λz u=>h z (wh _ u);let(a,o,9):=Li.mp (h y vr);let(k,s,j):=Ku o;let(g,f,b):=Paired.get hp (show c[k]?=some a by rw[li s,j]);show ⟨a::qs,g::hs,by rw[e];rfl,.cons b p,λx t=>?_,by rw[vl,vl,l]⟩;let 9||z:=Jb.mp t
  ·show d x (xA f)
  ·show q x z
def BN{H c:Hp}{b l:mu}{gs:7 Gm}{d:7 mu}{ys:7 V}(hp:Paired (uO H) d gs)(f:Sm gs)(s:ag H c)(h:c l=!.lst ys)(a:∀y∈ys,y∈d.map V.ref)(j:ys.length<=n):ML n c (.ref l):=by
 let(qs,hs,e,p,q,len):=uD hp f a;show {l,hs,9,⟨qs,by rw[h,e],Paired.imp (λ_ _ z=>s _ _ z) p⟩,q,()}
def Hz(h:Gd (ML n) σ H0 te)(o:Pt σ tl)(q:Pt σ th):Gd (ML n) σ H0 (Iq (An K) te tl th):=λH Q s k=>h H _ s λx H1 z r=>o H1 _ λl=>q H1 _ λu=>by
 let(a,gs,e,(v,j,hp),f,A):=r;have d:=Paired.length hp;show {a,_,e,ak.of j,λp c=>k _ _ (z.trans (ag.upd c)) (BN (b:=a) hp f (ag.upd c) aa (λy t=>Lz (K8 t)) ?_)};have:=i6 (v.map V.ref) l u;rw[lj]at this;omega
def DK{a:mu}{ns:7 3}{t:TE}{j:4}(h:Gd (ML n) σ H0 t)(v:σ[j]?=!!.ref a)(A:ak K H0 a (ns.map V.int))(D:ns.length<=63)(M:n<=300):Gd (ML (n+63)) σ H0 (tJ (oV K) [] E0 (eZ t (eZ (gi j) n9))):=λH Q s k=>h H _ s λx H1 q r=>by
 let(b,gs,9,(p,B,hp),c,I):=r;have o:=Paired.length hp;show ⟨_,v,b,a,p.map V.ref,ns,9,B,λx E=>?_,by rw[lj];omega,(s.trans q).seq A,D,λl u ys s' _ e d f=>k _ u (q.trans s') (BN (b:=b) hp c s' e d (by rw[lj]at f;omega))⟩;let(r,hr,9):=Li.mp E;let(i,hi,z):=Ku hr;let(g,y,C):=Paired.get hp (show p[i]?=some r by rw[li hi,z]);show {dG g,.tup (b9.of C) (.cons (.str _) (.cons (.int _) .nil)),λn=>Hy n (c g (xA y))}
def fM{R:Hp->V->Prop}{g:TG}{u:TS}{D:bN}{H:Hp}(b:Gd R σ H te)(k:∀x a,ag H a->R a x->g x σ a (u D)):EB (Ci te g) u D σ H:=b H _ (ag.refl _) k
def FV{c:TT}{ta:TA}{D:bN}{u:TS}{σ:St}{H:Hp}(L:V->V->St)(C:V->V->Prop){d e:V}(f:σ=L d e)(l:∀v w,(σ.set 03 (!v)).set 04 (!w)=L v w)(j:C d e)
  (hc:∀R:Bool->Hp->Prop,(∀b:Bool,(b=6->∀S:7 V->Hp->Prop,(∀v w,C v w->S [v,w] H)->ta σ H S)->R b H)->c σ H R) (a:∀v w,C v w->u D (L v w) H):EB (Gu c (Gz 03 04 ta) D0) u D σ H:=hc _ λb o=>by
 cases b with
 | true=>show bC (o 9 _ λv w h=>⟨v,w,9,by rw[l];show a v w h⟩)
 | false=>show aO (by rw[f];show a d e j)
def BO{j:3}:Gd IV σ H0 (tC (.int j)):=λH Q s k=>k _ H (ag.refl _) {_,9}
def Iz{j:3}:Gd IV σ H0 (HI (rU λi=>V.int (-i)) (tC (.int j))):=λH Q s k=>{_,9,k _ H (ag.refl _) {_,9}}
def uE{H:Hp}:∀{xs:7 V},(∀x∈xs,IV H x)->∃ps:7 3,xs=ps.map V.int
 | [],_=>⟨[],9⟩
 | x::r,h=>by
  let(ps,e):=uE (xs:=r) λy b=>h y (wh _ b);let(i,a):=h x vr;show ⟨i::ps,by rw[e,a];rfl⟩
def mt{b:TA}(h:F6 IV σ H0 k b)(f:k<=900):Gd (IL k) σ H0 (Af b):=λH Q s d=>h H _ s λxs H1 e a c=>⟨by rw[a];show Jh (am ()),λp hp=>by
 let(ps,9):=uE c;rw[lj]at a;show d _ _ (e.trans (ag.upd hp)) {p,ps,9,aa,()}⟩
end
def DL(b nb a:mu):7 (xD×V):=[("wagons",.ref b),("neighbours",.ref nb),("pairs",.ref a)]
def pU(a nb b:mu):(DL a nb b).lookup ("wagons":xD)=!.ref a:=9
def fh(b nb a:mu):(DL b nb a).lookup ("neighbours":xD)=!.ref nb:=9
def gK(b nb a:mu):(DL b nb a).lookup ("pairs":xD)=!.ref a:=9
def DM(b nb a:mu):aZ "pairs" (.ref a) (aZ "neighbours" (.ref nb) (aZ "wagons" (.ref b) []))=DL b nb a:=9
def sT(b nb a:mu):(DL b nb a).lookup ("let_come":xD)=8/\(DL b nb a).lookup ("let_leave":xD)=8/\(DL b nb a).lookup ("greater":xD)=8:=⟨9,9,9⟩
def HL(H:Hp)(r:mu)(x:4×4):Prop:=H r=!(.tup [.int (x.1:3),.int (x.2:3)])
structure Gk(Z:Adr)(H0 H:Hp)(q wg nA pr:mu)(nbs:7 mu)(T:7 3)(nb:7 (7 4))(ps:7 (4×4)):Prop where
 ins:∃dq,H q=!.ins Z.aP dq (DL wg nA pr)
 wg0:H0 wg=!.lst (T.map V.int)
 stk:H nA=!.lst (nbs.map V.ref)
 len:nbs.length=nb.length
 each:∀(t:4) (a:mu),nbs[t]?=!a->H a=!.lst (aH (nb.getD t []))/\H0 a=8/\a≠pr/\a≠nA
 apart:∀(t u:4) (a b:mu),nbs[t]?=!a->nbs[u]?=!b->t≠u->a≠b
 prs:∃rs:7 mu,H pr=!.lst (rs.map V.ref)/\Paired (HL H) rs ps
 q0:H0 q=8
 k0:H0 nA=8
 m0:H0 pr=8
 ms:pr≠nA
 same:ag H0 H
section
variable {H0 H:Hp} {q wg nA pr:mu} {nbs:7 mu} {T:7 3} {nb:7 (7 4)} {ps:7 (4×4)}
def Gk.sameH(h:Gk Z H0 H q wg nA pr nbs T nb ps){b:Hp}(e:ag H b):Gk Z H0 b q wg nA pr nbs T nb ps:=
 ⟨let ⟨i,z⟩:=h.ins;⟨i,e _ _ z⟩,h.wg0,e _ _ h.stk,h.len,λt a z=>let ⟨s,r⟩:=h.each t a z;⟨e _ _ s,r⟩,h.apart,let ⟨u,j,n⟩:=h.prs;{u,e _ _ j,Paired.imp (λ_ _ z=>e _ _ z) n},h.q0,h.k0,h.m0,h.ms,h.same.trans e⟩
def Gk.setN(h:Gk Z H0 H q wg nA pr nbs T nb ps){t:4}{a:mu}(e:nbs[t]?=!a)(c:7 4):Gk Z H0 (upd H a (.lst (aH c))) q wg nA pr nbs T (nb.set t c) ps:=by
 let(n,v,y,B):=h.each t a e;have D:t<nb.length:=by rw[<- h.len];show (op.mp e).1
 let(M,E,I):=h.prs;show ⟨?_,h.wg0,by rw[af B.symm];show h.stk,by rw[Kd];show h.len,λu b i=>?_,h.apart,⟨M,by rw[af y.symm];show E,Paired.imp (λr m z=>?_) I⟩,h.q0,h.k0,h.m0,h.ms,ag.updN h.same v⟩
 ·let(s,z):=h.ins
  show ⟨s,by rw[af (bh z n λw=>by cases w)];show z⟩
 ·rw[Sh.jk D]
  let(C,r):=h.each u b i
  by_cases j:u=t
  ·subst j
   have:b=a:=vb (i.symm.trans e);subst this;rw[if_pos 9];show ⟨aa,r⟩
  ·rw[if_neg j,af (h.apart u t b a i e j)]
   show ⟨C,r⟩
 ·unfold HL at z ⊢
  rw[af (bh z n λw=>by cases w)];show z
def Gk.setP(h:Gk Z H0 H q wg nA pr nbs T nb ps){rs':7 mu}{ps':7 (4×4)}(hp:Paired (HL H) rs' ps'):Gk Z H0 (upd H pr (.lst (rs'.map V.ref))) q wg nA pr nbs T nb ps':=by
 let(y,e,v):=h.prs;show ⟨?_,h.wg0,by rw[af h.ms.symm];show h.stk,h.len,λu b t=>?_,h.apart,{rs',aa,Paired.imp (λr m z=>?_) hp},h.q0,h.k0,h.m0,h.ms,ag.updN h.same h.m0⟩
 ·let(i,z):=h.ins
  show ⟨i,by rw[af (bh z e λw=>by cases w)];show z⟩
 ·let(j,n,a,s):=h.each u b t
  show ⟨by rw[af a];show j,n,a,s⟩
 ·unfold HL at z ⊢
  rw[af (bh z e λw=>by cases w)];show z
end
def Paired.unsnoc{t n:Type}{F:t->n->Prop}{l:7 t}{m:7 n}{b:n}(h:Paired F l (m++[b])):∃s a,l=s++[a]/\Paired F s m/\F a b:=by
 have j:=Paired.length h;rw[sB]at j;have i:l≠[]:=λz=>by rw[z]at j;simp at j
 show {l.dropLast,l.getLast i,(Kk i).symm,?_,?_}
 ·have:=Paired.take m.length h
  rw[List.take_left'  9]at this;rw[OQ];simp only[vl,Jo]at j;rw[show l.length-1=m.length from ()];show this
 ·simp only[vl,Jo]at j
  have e:l[m.length]?=!l.getLast i:=by rw[<- Kh i,Ke];congr 1;omega
  let(y,q,u):=Paired.get h e;rw[J8 (oN _),Ob]at q;cases q;show u
inductive pV(Z:Adr)(vs:7 V)(H:Hp)(Q:VK)(u3:XK):Prop
 | mk (H0:Hp) (q wg nA pr:mu) (nbs:7 mu) (T:7 3) (nb:7 (7 4)) (ps:7 (4×4)) (a b:4):vs=[.ref q,.int (a:3),.int (b:3)]->Gk Z H0 H q wg nA pr nbs T nb ps->a<T.length->b<T.length->Q (.int ((Gp.gr T a b:4):3)) H->pV Z vs H Q u3
def fN:al ["self", "one", "other"] ["self", "one", "other"] (ah gc):=by o_head AA
def rE(T:Tx K mg Z):cM P w K mg base bu 1 Z.aP "greater" ["self", "one", "other"] (pV Z):=by
 o_head (AC T.dI T.e0 fN)
 let(H0,q,C,nA,pr,ab,o,nb,ps,a,b,9,r,I,M,j):=h
 o_head (AE fN (k (n (xe (xJ (v (m 0) 1) (v (m 0) 2)) 1 2))))
 let(y,z):=r.ins;have hw:=r.same _ _ r.wg0;have B:∀{p:4},p<o.length->(o.map V.int)[p]?=!.int (o.getD p 0):=λ{p} hp=>by
  rw[r6,li hp,oa,li hp];rfl
 show {_,9,q,_,y,_,_,9,z,T.dI,T.dQ,pU _ _ _,_,9,.inl {C,_,(a:3),_,9,9,ak.of hw,aq (B I),?_}};show {_,9,q,_,y,_,_,9,z,T.dI,T.dQ,pU _ _ _,_,9,.inl {C,_,(b:3),_,9,9,ak.of hw,aq (B M),?_}};show {_,_,9,9,_,9,?_};unfold Gp.gr at j
 by_cases e:o.getD a 0>o.getD b 0
 ·rw[if_pos e]at j
  show fb e {_,9,j}
 ·rw[if_neg e]at j
  show cT e {_,9,j}
inductive nV(Z:Adr)(vs:7 V)(H:Hp)(Q:VK)(u3:XK):Prop
 | mk (H0:Hp) (q wg nA pr:mu) (nbs:7 mu) (T:7 3) (nb:7 (7 4)) (ps:7 (4×4)) (i:4):vs=[.ref q,.int (i:3)]->Gk Z H0 H q wg nA pr nbs T nb ps->ps.length<=1000->(∀H',Gk Z H0 H' q wg nA pr nbs T nb (ps++[(i,i)])->Q .non H')->nV Z vs H Q u3
def fi:al ["self", "place"] ["self", "place"] (ah ft):=by o_head AA
def vR(T:Tx K mg Z):cM P w K mg base bu 1 Z.aP "let_come" ["self", "place"] (nV Z):=by
 o_head (AC T.dI T.eY fi)
 let(H0,q,wg,nA,pr,ab,tr,nb,ps,i,9,e,hl,kQ):=h
 o_head (AE fi (k (p (D (m 0) (l (A (l 1 (l 1 a))) a)))))
 let(I,M):=e.ins;let(rs,y,B):=e.prs;show {_,9,q,_,I,_,_,9,M,T.dI,T.dP,gK _ _ _,.inl {9,_,ak.of y},?_};show ⟨_,9,_,9,(by show 2<=sizeLine;decide),λt r=>{pr,_,_,9,9,aj y r,?_,?_}⟩
 ·rw[lj,Paired.length B]
  show aw ()
 have C:=ag.upd (o:=.tup [.int (i:3),.int (i:3)]) r;have j:=(e.sameH C).setP (rs':=rs++[t]) (ps':=ps++[(i,i)]) (Paired.snoc' (Paired.imp (λ_ _ z=>C _ _ z) B) aa);rw[v0]at j;show kQ _ j
inductive mw(Z:Adr)(vs:7 V)(H:Hp)(Q:VK)(u3:XK):Prop
 | mk (H0:Hp) (q wg nA pr:mu) (nbs:7 mu) (T:7 3) (nb nb':7 (7 4)) (ps rp':7 (4×4)) (i:4):vs=[.ref q,.int (i:3)]->Gk Z H0 H q wg nA pr nbs T nb ps->i<T.length->nb.length=T.length->(∀x∈ps,x.2<T.length)->(∀a,(nb.getD a []).length+2*ps.length<=1000)->Gp.leave T i ps.reverse nb i=!(nb',rp')->(∀H',Gk Z H0 H' q wg nA pr nbs T nb' rp'.reverse->Q .non H')->mw Z vs H Q u3
def d5:al ["self", "place", "greatest", "other", "own"] ["self", "place"] (ah eR):=by o_head AA
def uF(T:Tx K mg Z):cM P w K mg base bu 2 Z.aP "let_leave" ["self", "place"] (mw Z):=by
 o_head (AC T.dI T.eZ d5)
 let(H0,q,wg,nA,pr,M,I,nb,a7,ps,a8,i,9,hG,hi,b2,b3,hb,b1,kQ):=h
 o_head (AE d5 (j (o 2 1) (j (Y (xJ (v (v (m 0) (y c)) c) 1) (j (o 03 (v (xS (m 0)) c)) (j (p (D (v (m 0) 1) (l 03 a))) (j (p (D (v (m 0) 03) (l 1 a))) (k (o 2 (L 0 (rE T) (l 2 (l 03 a))))))))) (j (o 04 (xS (m 0))) (j (o 2 (L 0 (rE T) (l 2 (l (v 04 c) a)))) (k (q (xG 2 1) (k (p (D (m 0) (l (A (l (v 04 c) (l 2 a))) a)))) d)))))))
 show {_,9,?_}
 let bt:Nat->St->Hp->Prop:=λm σ H1=>∃(C:7 (7 4)) (p1:7 (4×4)) (g1:4) (v3 v4:Option V),m=p1.length/\σ=[!.ref q,!(.int (i:3)),!(.int (g1:3)),v3,v4]/\Gk Z H0 H1 q wg nA pr M I C p1/\C.length=I.length/\g1<I.length/\(∀x∈p1,x.2<I.length)/\(∀a,(C.getD a []).length+2*p1.length<=1000)/\Gp.leave I i p1.reverse C g1=!(a7,a8)
 show ⟨bt,
  {_,nb,ps,i,8,8,9,9,hG,b2,hi,b3,hb,b1},?_⟩
 rintro m σ H1 ⟨C,p1,g1,v3,v4,rfl,rfl,ab,a6,a5,bn,aA,B⟩;let(dq,hq):=ab.ins;let 9||(r,x,9):=MT p1
 ·cases B
 rw[OR] at*;rw[Ln]at B;change Gp.leave I i (x::r.reverse) C g1=some (a7,a8) at B;unfold Gp.leave at B;let(rs,q1,q2):=ab.prs;let(rs',rl,9,q3,q4):=Paired.unsnoc q2;have a0:=bn x (by simp);show ⟨_,9,q,_,dq,_,_,9,hq,T.dI,T.dP,gK _ _ _,1,9,.inl ⟨pr,_,-1,.ref rl,9,9,ak.of q1,by rw[v0];show o9 _ _,?_⟩⟩;show .inr {rl,_,0,.int (x.1:3),9,9,b9.of q4,9,?_};show {_,9,_,_,9,9,_,9,?_}
 by_cases bm:i<x.1
 ·rw[if_pos bm]at B
  show fb () ?_;show {λbo H'=>∃m',m'<(r++[x]).length/\∃(C:7 (7 4)) (p1:7 (4×4)) (g1:4) (v3 v4:Option V),m'=p1.length/\bo=[!.ref q,!(.int (i:3)),!(.int (g1:3)),v3,v4]/\Gk Z H0 H' q wg nA pr M I C p1/\C.length=I.length/\g1<I.length/\(∀x∈p1,x.2<I.length)/\(∀a,(C.getD a []).length+2*p1.length<=1000)/\Gp.leave I i p1.reverse C g1=!(a7,a8),λbo H' z=>z,?_};show {_,9,q,_,dq,_,_,9,hq,T.dI,T.dP,gK _ _ _,.inl {9,_,ak.of q1},.inl {pr,_,.ref rl,9,9,q1,?_,?_}}
  ·rw[v0];simp
  rw[v0,KH,P9,LK];have e:=ab.setP q3;have q5:upd H1 pr (.lst (rs'.map V.ref)) rl=!(.tup [.int (x.1:3),.int (x.2:3)]):=by
   rw[af (bh q4 q1 λw=>by cases w)];show q4
  show .inr {rl,_,1,.int (x.2:3),9,9,b9.of q5,9,?_};let(an,aC):=e.ins;let(a1,a3):∃a,M[i]?=some a:=⟨_,li (by rw[ab.len,a6];show hi)⟩;let(e1,_):=e.each _ a1 a3;show ⟨_,9,q,_,an,_,_,9,aC,T.dI,T.dK,fh _ _ _,_,9,.inl ⟨nA,_,(i:3),.ref a1,9,9,ak.of e.stk,aq (by rw[r6,a3];rfl),?_⟩⟩;have bc:=aA i;rw[sB]at bc;simp only[vl,Jo]at bc;show ⟨.inl {9,_,ak.of e1},_,9,a1,_,_,9,9,e1,by rw[lj];show aw (),?_⟩;have bb:∀(c:7 4) (y:4),aH c++[V.int (y:3)]=aH (c++[y]):=λc y=>by
   show _=KY (λ(p:Nat)=>V.int (p:3)) (c++[y]);rw[v0];rfl
  rw[bb];have ac:=e.setN a3 (C.getD i []++[x.2]);change Gk Z H0 _ q wg nA pr M I (Gp.put C i x.2) r at ac;let(bA,b4):=ac.ins;let(a2,a4):∃a,M[x.2]?=some a:=⟨_,li (by rw[ab.len,a6];show a0)⟩;let(e2,_):=ac.each _ a2 a4;have b0:=Gp.oP (nb:=C) (i:=i) () x.2 x.2;have bd:=aA x.2;rw[sB]at bd;simp only[vl,Jo]at bd;have cd:((Gp.put C i x.2).getD x.2 []).length<=1000:=by
   rw[b0]
   split
   ·rw[sB];simp only[vl,Jo];omega
   ·omega
  show ⟨_,9,q,_,bA,_,_,9,b4,T.dI,T.dK,fh _ _ _,_,9,.inl ⟨nA,_,(x.2:3),.ref a2,9,9,ak.of ac.stk,aq (by rw[r6,a4];rfl),?_⟩⟩;show ⟨.inl {9,_,ak.of e2},_,9,a2,_,_,9,9,e2,by rw[lj];show aw (),?_⟩;rw[bb];have ap:=ac.setN a4 ((Gp.put C i x.2).getD x.2 []++[i]);change Gk Z H0 _ q wg nA pr M I (Gp.qp C i x.2) r at ap;let(bT,b5):=ap.ins;show {_,9,q,bT,_,9,b5,(sT _ _ _).2.2,_,9,_,9,H0,q,wg,nA,pr,M,I,_,r,g1,x.2,9,ap,a5,a0,?_};show ⟨r.length,by rw[sB];simp,Gp.qp C i x.2,r,Gp.gr I g1 x.2,_,_,9,9,ap,by unfold Gp.qp;rw[Gp.ka,Gp.ka];show a6,?_,λy hy=>bn y (JD _ hy),λa=>?_,B⟩
  ·let z||z:=Gp.xb I g1 x.2<;>rw[z]
   ·show a5
   ·show a0
  ·have:=Gp.xK (nb:=C) (p:=i) (o:=x.2) () () (m:=1000-2*(r.length+1)) (λa=>by have:=aA a;rw[sB]at this;simp only[vl,Jo]at this;omega) a
   omega
 ·rw[if_neg bm]at B
  show cT () ?_;show {_,9,q,_,dq,_,_,9,hq,T.dI,T.dP,gK _ _ _,.inl {9,_,ak.of q1},.inl {pr,_,.ref rl,9,9,q1,?_,?_}}
  ·rw[v0];simp
  rw[v0,KH,P9,LK];have e:=ab.setP q3;have q5:upd H1 pr (.lst (rs'.map V.ref)) rl=!(.tup [.int (x.1:3),.int (x.2:3)]):=by
   rw[af (bh q4 q1 λw=>by cases w)];show q4
  let(an,aC):=e.ins;show {_,9,q,an,_,9,aC,(sT _ _ _).2.2,_,9,_,9,.inr {rl,_,1,.int (x.2:3),9,9,b9.of q5,9,?_}};show {H0,q,wg,nA,pr,M,I,_,r,g1,x.2,9,e,a5,a0,?_};generalize cg:Gp.gr I g1 x.2=g2 at B ⊢;show {_,9,_,9,.inl {9,_,9,?_}};cases B
  by_cases hg:g2=i
  ·rw[if_pos hg]at kQ
   show hV (by rw[hg]) ?_;show kQ _ ?_;rw[Nj];show e
  ·rw[if_neg hg]at kQ
   show AV (λz=>hg (by have:=V.int.inj z;omega)) ?_;let(ca,f1,f2):=e.prs;show {_,9,q,_,an,_,_,9,aC,T.dI,T.dP,gK _ _ _,.inl {9,_,ak.of f1},?_};show {_,9,.inr {rl,_,0,.int (x.1:3),9,9,b9.of q5,9,?_}};show ⟨_,9,(by show 2<=sizeLine;decide),λt ht=>{pr,_,_,9,9,aj f1 ht,?_,?_}⟩
   ·rw[lj,Paired.length f2]
    have:=aA 0;rw[sB]at this;show aw ()
   have s1:=ag.upd (o:=.tup [.int (x.1:3),.int (g2:3)]) ht;have h2:=(e.sameH s1).setP (rs':=ca++[t]) (ps':=r++[(x.1,g2)]) (Paired.snoc' (Paired.imp (λ_ _ z=>s1 _ _ z) f2) aa);rw[v0]at h2;show kQ _ ?_;rw[Lu,Nj];show h2
inductive jC(Z:Adr)(vs:7 V)(H:Hp)(Q:VK)(u3:XK):Prop
 | mk (p dx wg:mu) (T:7 3):vs=[.ref p,.ref wg]->H p=!.ins Z.aP dx []->H wg=!.lst (T.map V.int)->T.length<=1000->(∀(nA pr:mu) (nbs:7 mu) (H':Hp),(∀c o,H c=!o->c≠p->H' c=!o)->H' p=!.ins Z.aP dx (DL wg nA pr)->H' nA=!.lst (nbs.map V.ref)->nbs.length=T.length->(∀(t:4) (a:mu),nbs[t]?=!a->H' a=!.lst []/\H a=8/\a≠pr/\a≠nA)->(∀(t u:4) (a b:mu),nbs[t]?=!a->nbs[u]?=!b->t≠u->a≠b)->H' pr=!.lst []->H nA=8->H pr=8->pr≠nA->Q .non H')->jC Z vs H Q u3
def jD:al ["self", "wagons"] ["self", "wagons"] (ah fQ):=by o_head AA
def BP(T:Tx K mg Z):lQ P w K mg base bu 1 "Groups" Z.aP ["self", "wagons"] (jC Z):=by
 o_head (AD T.dH T.eX jD)
 let(p,dx,wg,tr,9,hp,hw,hm,k):=h
 o_head (AE jD (j (F 0 1) (j (F 0 (V fQ ["self", "wagons"] [none] ["wagon"] (I 1) (W 0 ["wagon"]) (z a))) (k (F 0 (z a))))))
 have a4:wg≠p:=bh hw hp λw=>by cases w
 show ⟨_,9,_,9,p,_,dx,_,9,hp,T.dI,T.dQ,(by show 0<1000;decide),?_⟩;generalize B:upd H p (.ins Z.aP dx (aZ "wagons" (.ref wg) []))=H1;have C:H1 p=!.ins Z.aP dx (aZ "wagons" (.ref wg) []):=by rw[<- B];show aa
 have aA:H1 wg=!.lst (tr.map V.int):=by rw[<- B,af a4];show hw
 have a5:∀c o,H c=!o->c≠p->H1 c=!o:=λc o e hc=>by rw[<- B,af hc];show e
 have ab:∀c,H1 c=8->H c=8:=λc e=>by
  have hc:c≠p:=λz=>by rw[z,C]at e;cases e
  rw[<- B,af hc]at e;show e
 show {_,9,wg,9,{_,ak.of aA},λsk M=>?_}
 let a2:Nat->St->Hp->Prop:=λi σ H2=>(∃v,σ=[v])/\ag H1 H2/\∃r:7 mu,r.length=i/\H2 sk=!.lst (r.map V.ref)/\(∀(t:4) (a:mu),r[t]?=!a->H2 a=!.lst []/\H1 a=8/\a≠sk)/\∀(t u:4) (a b:mu),r[t]?=!a->r[u]?=!b->t≠u->a≠b
 show aW (K:=K) (a:=wg) (xs:=tr.map V.int) a2
  {{_,9},ag.upd M,[],9,aa,λt a e=>by simp at e,λt u a b e=>by simp at e} (λi σ H2 _ h=>ak.of (h.2.1 _ _ aA)) ?_ ?_
 ·rintro i x σ H2 hx ⟨⟨v,rfl⟩,s2,r,hl,h1,h2,h3⟩
  have hi:i<tr.length:=by have:=(op.mp hx).1;rw[lj]at this;show this
  show {Jd _,λu hu=>?_};have ap:sk≠u:=ae h1 hu;show ⟨_,aj h1 hu,?_,{_,9},ag.updN (s2.trans (ag.upd hu)) M,r++[u],by simp[hl],?_,λt a e=>?_,λt t' a b e e' ne=>?_⟩
  ·rw[lj,hl]
   show am ()
  ·rw[aa,v0]
   rfl
  ·let(_,e)||(_,9):=Thr.gn e
   ·let(z1,z2,z3):=h2 t a e
    show ⟨by rw[af z3];show aj z1 hu,z2,z3⟩
   ·show ⟨by rw[af ap.symm,aa],s2.free hu,ap.symm⟩
  ·let(_,e1)||(i1,e1):=Thr.gn e<;>let(_,e2)||(i2,e2):=Thr.gn e'
   ·show h3 t t' a b e1 e2 ne
   ·rw[e2];show ae (h2 t a e1).1 hu
   ·rw[e1];show (ae (h2 t' b e2).1 hu).symm
   ·omega
 ·rintro σ H2 ⟨_,s2,r,hl,h1,h2,h3⟩
  rw[lj]at hl;have a3:=s2 _ _ C;show ⟨_,9,p,_,dx,_,9,a3,T.dI,T.dK,(by show 1<1000;decide),?_⟩;show {Jd _,λmv ac=>?_};have an:p≠mv:=ae aa ac;have y:H2 mv=8:=by rw[af an.symm]at ac;show ac
  show ⟨_,9,p,_,dx,_,9,by rw[af an,aa],T.dI,T.dP,(by show 2<1000;decide),?_⟩;rw[DM];have a1:p≠sk:=ae C M;show k sk mv r _ (λc o e hc=>?_) aa ?_ hl (λt a e=>?_) h3 ?_ (ab _ M) (ab _ (s2.free y)) (ae h1 y).symm
  ·have z:=s2 _ _ (a5 c o e hc)
   rw[af hc,af (ae z y),af hc];show z
  ·rw[af a1.symm,af (ae h1 y),af a1.symm]
   show h1
  ·let(z1,z2,z3):=h2 t a e
   have aC:a≠mv:=ae z1 y;have a0:a≠p:=(ae C z2).symm;show ⟨by rw[af a0,af aC,af a0];show z1,ab _ z2,aC,z3⟩
  ·rw[af an.symm,aa]
def DN(b a pA:mu):7 (xD×V):=[("neighbours",.ref b),("depths",.ref a),("parents",.ref pA)]
def jE(a b pA:mu):(DN a b pA).lookup ("neighbours":xD)=!.ref a:=9
def bV(b a pA:mu):(DN b a pA).lookup ("depths":xD)=!.ref a:=9
def jF(b a pA:mu):(DN b a pA).lookup ("parents":xD)=!.ref pA:=9
def DO(b a pA:mu):aZ "parents" (.ref pA) (aZ "depths" (.ref a) (aZ "neighbours" (.ref b) []))=DN b a pA:=9
def vS(b a pA:mu):(DN b a pA).lookup ("grow":xD)=8/\(DN b a pA).lookup ("grow_from":xD)=8/\(DN b a pA).lookup ("path":xD)=8:=⟨9,9,9⟩
structure Fk(Z:Adr)(H0 H:Hp)(q nA dA pA:mu)(nbs:7 mu)(nb:7 (7 4))(dep par:7 3):Prop where
 ins:∃dq,H q=!.ins Z.aO dq (DN nA dA pA)
 stk:H0 nA=!.lst (nbs.map V.ref)
 len:nbs.length=nb.length
 each:∀(t:4) (a:mu),nbs[t]?=!a->H0 a=!.lst (aH (nb.getD t []))
 d:H dA=!.lst (dep.map V.int)
 p:H pA=!.lst (par.map V.int)
 q0:H0 q=8
 d0:H0 dA=8
 p0:H0 pA=8
 dp:dA≠pA
 same:ag H0 H
section
variable {H0 H:Hp} {q nA dA pA:mu} {nbs:7 mu} {nb:7 (7 4)} {dep par:7 3}
def Fk.sameH(h:Fk Z H0 H q nA dA pA nbs nb dep par){a:Hp}(e:ag H a):Fk Z H0 a q nA dA pA nbs nb dep par:=
 ⟨let ⟨b,z⟩:=h.ins;{b,e _ _ z},h.stk,h.len,h.each,e _ _ h.d,e _ _ h.p,h.q0,h.d0,h.p0,h.dp,h.same.trans e⟩
def Fk.setD(h:Fk Z H0 H q nA dA pA nbs nb dep par)(a:7 3):Fk Z H0 (upd H dA (.lst (a.map V.int))) q nA dA pA nbs nb a par:=
 ⟨let ⟨b,z⟩:=h.ins;⟨b,by rw[af (bh z h.d λw=>by cases w)];show z⟩,h.stk,h.len,h.each,aa,by rw[af h.dp.symm];show h.p,h.q0,h.d0,h.p0,h.dp,ag.updN h.same h.d0⟩
def Fk.setP(h:Fk Z H0 H q nA dA pA nbs nb dep par)(a:7 3):Fk Z H0 (upd H pA (.lst (a.map V.int))) q nA dA pA nbs nb dep a:=
 ⟨let ⟨b,z⟩:=h.ins;⟨b,by rw[af (bh z h.p λw=>by cases w)];show z⟩,h.stk,h.len,h.each,by rw[af h.dp];show h.d,aa,h.q0,h.d0,h.p0,h.dp,ag.updN h.same h.p0⟩
def Fk.setX(h:Fk Z H0 H q nA dA pA nbs nb dep par){a:mu}{xs ys:7 V}(n:H a=!.lst xs)(e:H0 a=8)(i:a≠dA)(j:a≠pA):Fk Z H0 (upd H a (.lst ys)) q nA dA pA nbs nb dep par:=
 ⟨let ⟨b,z⟩:=h.ins;⟨b,by rw[af (bh z n λw=>by cases w)];show z⟩,h.stk,h.len,h.each,by rw[af i.symm];show h.d,by rw[af j.symm];show h.p,h.q0,h.d0,h.p0,h.dp,ag.updN h.same e⟩
end
def HA(n:4)(z:3):(ra n [V.int z]).flatten=(ra n z).map V.int:=by
 rw[Nd]
 induction n with
 | zero=>rfl
 | succ n a=>rw[JW,LN,a,JW];rfl
inductive jG(Z:Adr)(vs:7 V)(H:Hp)(Q:VK)(u3:XK):Prop
 | mk (p dx nA:mu) (xs:7 V):vs=[.ref p,.ref nA]->H p=!.ins Z.aO dx []->H nA=!.lst xs->xs.length<=1000->(∀(dA pA:mu) (H':Hp),(∀c o,H c=!o->c≠p->H' c=!o)->H' p=!.ins Z.aO dx (DN nA dA pA)->H' dA=!(.lst ((ra xs.length (-1:3)).map V.int))->H' pA=!(.lst ((ra xs.length (-1:3)).map V.int))->H dA=8->H pA=8->dA≠pA->Q .non H')->jG Z vs H Q u3
def jH:al ["self", "neighbours"] ["self", "neighbours"] (ah kq):=by o_head AA
def BQ(T:Tx K mg Z):lQ P w K mg base bu 1 "Forest" Z.aO ["self", "neighbours"] (jG Z):=by
 o_head (AD T.dC T.eN jH)
 let(p,dx,nA,xs,9,hp,hn,hm,k):=h
 o_head (AE jH (j (F 0 1) (j (F 0 (xw (z (l (y c) a)) (t (l 1 a)))) (k (F 0 (xw (z (l (y c) a)) (t (l 1 a))))))))
 have a2:nA≠p:=bh hn hp λw=>by cases w
 show ⟨_,9,_,9,p,_,dx,_,9,hp,T.dD,T.dF,(by show 0<1000;decide),?_⟩;generalize r:upd H p (.ins Z.aO dx (aZ "neighbours" (.ref nA) []))=H1;have ac:H1 p=!.ins Z.aO dx (aZ "neighbours" (.ref nA) []):=by rw[<- r];show aa
 have a1:H1 nA=!.lst xs:=by rw[<- r,af a2];show hn
 have a5:∀c o,H c=!o->c≠p->H1 c=!o:=λc o e hc=>by rw[<- r,af hc];show e
 have an:∀c,H1 c=8->H c=8:=λc e=>by
  have hc:c≠p:=λz=>by rw[z,ac]at e;cases e
  rw[<- r,af hc]at e;show e
 have C:((xs.length:4):3).toNat=xs.length:=Ji _;show ⟨1,9,(by show 1<=sizeLine;decide),λe he=>?_⟩;show ⟨_,9,_,_,9,.inl {_,ak.of (aj a1 he),9},.inr ⟨e,_,_,9,9,aa,(),(),Jh (aw (by show 1*_<=_;omega)),λl hl=>?_⟩⟩;rw[C,HA];have s1:=(ag.upd (o:=.lst [.int (-1)]) he).trans (ag.upd (o:=.lst ((ra xs.length (-1:3)).map V.int)) hl);have aA:=(ag.upd (o:=.lst [.int (-1)]) he).free hl;show ⟨_,9,p,_,dx,_,9,s1 _ _ ac,T.dD,T.dE,(by show 1<1000;decide),?_⟩;generalize M:upd (upd H1 e (.lst [.int (-1)])) l (.lst ((ra xs.length (-1:3)).map V.int))=H2
 change upd (upd H1 e (.lst [.int (-1)])) l _=H2 at M;have s2:ag H1 H2:=M▸s1;have aC:H2 l=!(.lst ((ra xs.length (-1:3)).map V.int)):=by rw[<- M];show aa
 have a3:l≠p:=(ae ac aA).symm;have a4:upd H2 p (.ins Z.aO dx (aZ "depths" (.ref l) (aZ "neighbours" (.ref nA) []))) nA=!.lst xs:=by rw[af a2];show s2 _ _ a1
 show ⟨1,9,(by show 1<=sizeLine;decide),λe' ab=>?_⟩;show ⟨_,9,_,_,9,.inl {_,ak.of (aj a4 ab),9},.inr ⟨e',_,_,9,9,aa,(),(),Jh (aw (by show 1*_<=_;omega)),λl' ap=>?_⟩⟩;rw[C,HA];have s3:=(ag.upd (o:=.lst [.int (-1)]) ab).trans (ag.upd (o:=.lst ((ra xs.length (-1:3)).map V.int)) ap);have B:=(ag.upd (o:=.lst [.int (-1)]) ab).free ap;have I:l'≠p:=λz=>by rw[z,aa]at B;cases B
 have a0:H2 l'=8:=by rw[af I]at B;show B
 show ⟨_,9,p,_,dx,_,9,s3 _ _ aa,T.dD,T.dG,(by show 2<1000;decide),?_⟩;rw[DO];show k l l' _ (λc o z hc=>?_) aa ?_ ?_ (an _ aA) (an _ (s2.free a0)) (ae aC a0)
 ·rw[af hc]
  show s3 _ _ ?_;rw[af hc];show s2 _ _ (a5 c o z hc)
 ·rw[af a3]
  show s3 _ _ ?_;rw[af a3];show aC
 ·rw[af I,aa]
def pW{l:7 3}{p:4}(h:p<l.length):(l.map V.int)[p]?=!.int (Gp.gD l p):=by
 rw[r6,li h];show _=!(V.int (l.getD p (-1)));rw[oa,li h];rfl
def bY(c:7 4)(y:4):aH c++[V.int (y:3)]=aH (c++[y]):=by
 show _=KY (λ(p:Nat)=>V.int (p:3)) (c++[y]);rw[v0];rfl
inductive my(Z:Adr)(vs:7 V)(H:Hp)(Q:VK)(u3:XK):Prop
 | mk (H0:Hp) (q nA dA pA:mu) (nbs:7 mu) (nb:7 (7 4)) (dep par:7 3) (n root:4) (rt:4->4):vs=[.ref q,.int (root:3)]->Fk Z H0 H q nA dA pA nbs nb dep par->Gp.BB nb n->n<=200->Gp.W nb n root dep par [root] [] [] rt->dep.count (-1)+1<=n->(∀(dep' par':7 3) (rt':4->4) (H':Hp),Fk Z H0 H' q nA dA pA nbs nb dep' par'->Gp.W nb n root dep' par' [] [] [] rt'->Gp.FH dep dep'->Q .non H')->my Z vs H Q u3
def d6:al ["self", "root", "reached", "place", "other"] ["self", "root"] (ah eQ):=by o_head AA
def uG(T:Tx K mg Z):cM P w K mg base bu 1 Z.aO "grow_from" ["self", "root"] (my Z):=by
 o_head (AC T.dD T.eP d6)
 let(H0,q,nA,dA,pA,a6,nb,dep,cl,n,ab,rt,9,hF,hN,hn,hW,hc,kQ):=h
 o_head (AE d6 (j (o 2 (z (l 1 a))) (k (Y (s 2) (j (o 03 (xS 2)) (k (B (I (v (m 0) 03)) (U 04) (k (q (xF (v (m 0) 04) (y c)) (j (Z (R (v (m 0) 03) c) (xZ (m 0) 04)) (j (Z 03 (xZ (m 0) 04)) (k (p (D 2 (l 04 a)))))) d)))))))))
 show ⟨_,9,(by show 1<=sizeLine;decide),λl hl=>?_⟩;have b2:H0 l=8:=hF.same.free hl;have bc:l≠dA:=(ae hF.d hl).symm;have bd:l≠pA:=(ae hF.p hl).symm
 let b5:Nat->St->Hp->Prop:=λm σ H1=>∃(e M:7 3) (st:7 4) (aC:4->4) (v3 v4:Option V),m=e.count (-1)+st.length/\σ=[!.ref q,!(.int (ab:3)),!.ref l,v3,v4]/\Fk Z H0 H1 q nA dA pA a6 nb e M/\H1 l=!.lst (aH st)/\Gp.W nb n ab e M st [] [] aC/\Gp.FH dep e/\e.count (-1)+st.length<=n
 show ⟨b5,
  {_,dep,cl,[ab],rt,8,8,9,9,hF.sameH (ag.upd hl),aa,hW,λ_ z=>z,hc},?_⟩
 rintro m σ H1 ⟨e,M,st,aC,v3,v4,rfl,rfl,bo,a4,bt,bn,b0⟩;show {_,9,_,.inl {_,ak.of a4,9},?_};let 9||(st,C,9):=MT st
 ·show aO (kQ e M aC H1 bo bt bn)
 rw[OR] at*;have ch:((not ((aH (st++[C])).isEmpty)))=6:=by
  show ((not ((KY (λ(p:Nat)=>V.int (p:3)) (st++[C])).isEmpty)))=6;rw[v0];cases st<;>rfl
 rw[ch];show bC ?_;show {λb3 H'=>∃m',m'<e.count (-1)+(st++[C]).length/\∃(e M:7 3) (st:7 4) (aC:4->4) (v3 v4:Option V),m'=e.count (-1)+st.length/\b3=[!.ref q,!(.int (ab:3)),!.ref l,v3,v4]/\Fk Z H0 H' q nA dA pA a6 nb e M/\H' l=!.lst (aH st)/\Gp.W nb n ab e M st [] [] aC/\Gp.FH dep e/\e.count (-1)+st.length<=n,λb3 H' z=>z,?_};show {_,9,.inl {9,_,ak.of a4},.inl {l,_,.int (C:3),9,9,a4,?_,?_}}
 ·rw[<- bY];simp
 rw[<- bY,LK];have bA:=bt.pop;have a1:=bo.setX a4 b2 bc bd (ys:=aH st);let(cn,c0,_):=bA.wait C (.inr vr);let(ca,ci):=a1.ins;let(a,ea):∃a,a6[C]?=some a:=⟨_,li (by rw[hF.len,hN.len];show cn)⟩;have bT:=hF.each _ a ea;rw[sB]at b0;simp only[vl,Jo]at b0;show ⟨_,9,q,_,ca,_,_,9,ci,T.dD,T.dF,jE _ _ _,_,9,.inl ⟨nA,_,(C:3),.ref a,9,9,ak.of (a1.same _ _ a1.stk),aq (by rw[r6,ea];rfl),?_⟩⟩
 let b4:Nat->St->Hp->Prop:=λk σ H2=>∃(r ac:7 3) (an:7 4) (a0:4->4) (v4:Option V),σ=[!.ref q,!(.int (ab:3)),!.ref l,!(.int (C:3)),v4]/\Fk Z H0 H2 q nA dA pA a6 nb r ac/\H2 l=!.lst (aH an)/\Gp.W nb n ab r ac an [C] ((nb.getD C []).take k) a0/\Gp.FH dep r/\r.count (-1)+an.length=e.count (-1)+st.length
 show ⟨a,9,{_,ak.of (a1.same _ _ bT)},aT (K:=K) (a:=a) (xs:=aH (nb.getD C [])) b4
  ⟨e,M,st,aC,v4,9,a1,aa,by rw[List.take_zero];show bA,bn,9⟩ (λi σ H2 _ h=>?_) ?_ ?_⟩
 ·let(_,_,_,_,_,_,h1,_):=h
  show ak.of (h1.same _ _ bT)
 ·rintro k x σ H2 hx ⟨r,ac,an,a0,co,rfl,aA,a5,ap,a3,b1⟩
  let(o,eo,9):=aK hx;have a2:Gp.lu nb C o:=xA eo;have on:=hN.lt _ _ a2;let(a7,bm):=aA.ins;have ct:=ap.f.dl;have cv:=ap.f.pl;show {_,9,q,_,a7,_,_,9,bm,T.dD,T.dE,bV _ _ _,_,9,.inl {dA,_,(o:3),_,9,9,ak.of aA.d,aq (pW ()),?_}};show {1,9,.inl {9,_,9,?_}};show dw (λhe=>?_) (λhe=>?_)
  ·have hD:Gp.gD r o=-1:=V.int.inj he
   show {_,9,q,_,a7,_,_,9,bm,T.dD,T.dE,bV _ _ _,_,9,.inl {dA,_,(C:3),_,9,9,ak.of aA.d,aq (pW ()),?_}};show .inl {_,1,9,9,?_};show ⟨_,9,q,_,a7,_,_,9,bm,T.dD,T.dE,bV _ _ _,_,9,dA,_,(o:3),o,9,9,aA.d,fB (by rw[lj];omega),?_⟩;rw[<- Ma];have a8:=aA.setD (r.set o (Gp.gD r C+1));let(cd,cj):=a8.ins;show ⟨_,9,_,9,q,_,cd,_,_,9,cj,T.dD,T.dG,jF _ _ _,_,9,pA,_,(o:3),o,9,9,a8.p,fB (by rw[lj];omega),?_⟩;rw[<- Ma];have cg:=a8.setP (ac.set o (C:3))
   have bb:upd (upd H2 dA (.lst ((r.set o (Gp.gD r C+1)).map V.int))) pA (.lst ((ac.set o (C:3)).map V.int)) l=!.lst (aH an):=by
    rw[af bd,af bc];show a5
   have cp:=Gp.jo (dep:=r) (o:=o) (v:=Gp.gD r C+1) () hD (by have:=(ap.wait C (.inr vr)).2.1;omega);show ⟨_,9,.inl {9,_,ak.of bb},_,9,l,_,_,9,9,bb,by rw[lj];show aw (),?_⟩;rw[bY];show ⟨_,_,an++[o],(λp=>if p=o then ab else a0 p),_,9,cg.setX bb b2 bc bd,aa,?_,λp z=>Gp.FH.set () (by have:=(ap.wait C (.inr vr)).2.1;omega) p (a3 p z),?_⟩
   ·rw[aP eo]
    show ap.new hN a2 hD
   ·rw[sB]
    simp only[vl,Jo];omega
  ·show {_,_,an,a0,_,9,aA,a5,?_,a3,b1}
   rw[aP eo];show ap.old hN a2 λz=>he (by rw[z])
 ·rintro σ H2 ⟨r,ac,an,a0,co,rfl,aA,a5,ap,a3,b1⟩
  rw[lj,KL]at ap;show {r.count (-1)+an.length,?_,r,ac,an,a0,_,_,9,9,aA,a5,ap.close,a3,()};rw[sB];simp only[vl,Jo];omega
inductive ye(Z:Adr)(vs:7 V)(H:Hp)(Q:VK)(u3:XK):Prop
 | mk (H0:Hp) (q nA dA pA:mu) (nbs:7 mu) (nb:7 (7 4)) (n:4):vs=[.ref q]->Fk Z H0 H q nA dA pA nbs nb (ra n (-1)) (ra n (-1))->Gp.BB nb n->n<=200->(∀(dep par:7 3) (rt:4->4) (H':Hp),Fk Z H0 H' q nA dA pA nbs nb dep par->Gp.Fo nb n dep par rt->Q .non H')->ye Z vs H Q u3
def jI:al ["self", "root"] ["self"] (ah kr):=by o_head AA
def FW(T:Tx K mg Z):cM P w K mg base bu 2 Z.aO "grow" ["self"] (ye Z):=by
 o_head (AC T.dD T.eO jI)
 let(H0,q,nA,dA,pA,ab,nb,n,9,hF,hN,hn,kQ):=h
 o_head (AE jI (k (B (J (l (t (l (m 0) a)) a)) (U 1) (k (q (xF (v (m 0) 1) (y c)) (j (Z c (xZ (m 0) 1)) (k (p (L 0 (uG T) (l 1 a))))) d)))))
 let(dq,hq):=hF.ins;have a6:ab.length=n:=by rw[hF.len,hN.len]
 have hg:∀p,Gp.gD (ra n (-1)) p=-1:=λp=>by
  show (ra n (-1:3)).getD p (-1)=-1;rw[oa,JV]
  split<;>rfl
 show {_,9,q,_,dq,_,_,9,hq,T.dD,T.dF,jE _ _ _,_,_,9,.inl {_,ak.of (hF.same _ _ hF.stk),9},_,9,?_,?_,?_}
 ·rw[lj];omega
 ·rw[lj];omega
 rw[lj,Ji,a6]
 let a1:Nat->St->Hp->Prop:=λi σ H1=>∃(dep r:7 3) (rt:4->4) (v1:Option V),σ=[!.ref q,v1]/\Fk Z H0 H1 q nA dA pA ab nb dep r/\Gp.F nb n dep r rt/\Gp.Cl nb n dep rt (λ_=>False)/\∀p,p<i->0<=Gp.gD dep p
 show eJ (lo:=0) (n:=n) a1
  {_,_,λp=>p,8,9,hF,{zg,zg,λp _ z=>?_,λp _ z=>rfl,λp hp=>?_},λp _ z=>?_,λp hp=>()} ?_ ?_
 ·rw[hg]at z;omega
 ·rw[hg,List.count_replicate_self];omega
 ·rw[hg]at z;omega
 ·rintro i σ H1 hi ⟨dep,r,rt,v1,rfl,e,M,I,C⟩
  rw[show (0:3)+(i:3)=(i:3) from LP _];let(an,aC):=e.ins;have a5:=M.dl;show {_,9,q,_,an,_,_,9,aC,T.dD,T.dE,bV _ _ _,_,9,.inl {dA,_,(i:3),_,9,9,ak.of e.d,aq (pW ()),?_}};show {1,9,.inl {9,_,9,?_}};show dw (λhe=>?_) (λhe=>?_)
  ·have hD:Gp.gD dep i=-1:=V.int.inj he
   show ⟨_,9,q,_,an,_,_,9,aC,T.dD,T.dE,bV _ _ _,_,9,dA,_,(i:3),i,9,9,e.d,fB (by rw[lj];omega),?_⟩;rw[<- Ma];have ap:=e.setD (dep.set i 0);let(a2,a8):=ap.ins;have bd:=Gp.jo (dep:=dep) (o:=i) (v:=0) () hD ();have bc:dep.count (-1)<=n:=a5▸O6;show {_,9,q,a2,_,9,a8,(vS _ _ _).2.1,_,9,H0,q,nA,dA,pA,ab,nb,dep.set i 0,r,n,i,_,9,ap,hN,hn,Gp.W.start hN M I hi hD,(),λac a0 bb H3 a4 aA a3=>?_};show {ac,a0,bb,_,9,a4,aA.f,λp a b c=>aA.cl p a b (by simp),λp hp=>?_}
   show a3 p ?_;rw[Gp.lw ()]
   split
   ·show JZ _
   ·show C p ()
  ·show {dep,r,rt,_,9,e,M,I,λp hp=>?_}
   by_cases a7:p=i
   ·have:=(M.bd p ()).1
    have:Gp.gD dep p≠-1:=λz=>he (by rw[<- a7,z]);omega
   ·show C p ()
 ·rintro σ H1 ⟨dep,r,rt,v1,rfl,e,M,I,C⟩
  show kQ dep r rt H1 e ⟨M,I,C⟩
def BR(xs:7 V):dm xs 8 (!(-1))=xs.dropLast:=by
 unfold dm;have e:HT.sIx xs.length xs.length (!(-1))=xs.length-1:=by
  show (if (-1:3)<0 then ((-1:3)+(xs.length:3)).toNat else min (-1:3).toNat xs.length)=_;rw[if_pos (by decide)];omega
 rw[HT.sIx_none,e,Qt,Nat.sub_zero,OQ]
inductive yf(Z:Adr)(vs:7 V)(H:Hp)(Q:VK)(u3:XK):Prop
 | mk (H0:Hp) (q nA dA pA:mu) (nbs:7 mu) (nb:7 (7 4)) (dep par:7 3) (n c d:4) (rt:4->4):vs=[.ref q,.int (c:3),.int (d:3)]->Fk Z H0 H q nA dA pA nbs nb dep par->Gp.BB nb n->n<=200->Gp.Fo nb n dep par rt->c<n->d<n->rt c=rt d->(∀(l:mu) (H':Hp) (ring:7 4) (z:3),ag H H'->H l=8->H' l=!.lst (aH ring)->Gp.FI nb n c d ring->(ring.length:3)=Gp.gD dep c+Gp.gD dep d-2*z+1->Q (.ref l) H')->yf Z vs H Q u3
def jJ:al ["self", "one", "other", "from_one", "from_other"] ["self", "one", "other"] (ah ku):=by o_head AA
def FX(T:Tx K mg Z):cM P w K mg base bu 1 Z.aO "path" ["self", "one", "other"] (yf Z):=by
 o_head (AC T.dD T.eT jJ)
 let(H0,q,nA,dA,pA,b1,nb,dep,b3,n,c,d,rt,9,hF,hN,hn,C,hc,hd,a6,kQ):=h;refine' {_,?hterm,?_}
 case hterm=>
  have c:=jJ;refine' ai ?q1 ?q2
  case q1=>o_head (o 03 (z (l 1 a)))
  case' q2=>refine' ai ?q5 ?q6
  case q5=>o_head (o 04 (z (l 2 a)))
  case' q6=>refine' ai ?q9 ?a7
  case q9=>o_head (Y (xG (v 03 (y c)) (v 04 (y c))) (k (q (xL (v (m 0) (v 03 (y c))) (v (m 0) (v 04 (y c)))) (k (p (D 03 (l (v (m 0) (v 03 (y c))) a)))) (k (p (D 04 (l (v (m 0) (v 04 (y c))) a)))))))
  case' a7=>refine' ax ?a8
  case' a8=>refine' fS ?bb
  case' bb=>refine' kG (lR (K:=K) (by rfl)) (pv 03) ?bm
  case' bm=>refine' pI ?bn 9 (by rfl) T.aI (by rfl) T.aN
  case bn=>o_head (xc 04 i (S (y c)))
 show ⟨_,9,(by show 1<=sizeLine;decide),λI aA=>?_⟩;show ⟨_,9,(by show 1<=sizeLine;decide),λB ac=>?_⟩;have aC:I≠B:=ae aa ac;have a1:H B=8:=(ag.upd aA).free ac;have bA:=C.f.dl;have bT:=C.f.pl
 let a3:Nat->St->Hp->Prop:=λm σ H1=>∃(i1 e:7 4) (a b:4),m=(Gp.gD dep a+Gp.gD dep b).toNat/\σ=[!.ref q,!(.int (c:3)),!(.int (d:3)),!.ref I,!.ref B]/\ag H H1/\H1 I=!(.lst (aH (i1++[a])))/\H1 B=!(.lst (aH (e++[b])))/\Gp.Pt nb n dep rt c d i1 a e b
 show ⟨a3,
  {_,[],[],c,d,9,9,(ag.upd aA).trans (ag.upd ac),aj aa ac,aa,⟨hc,hd,λv z=>(by cases z),λv z=>(by cases z),trivial,trivial,9,9,by simp,by simp,a6,λv z=>(by cases z),λv z=>(by cases z),.nil,.nil,λv z=>(by cases z),λv z=>(by cases z)⟩},?_⟩
 rintro m σ H1 ⟨i1,e,a,b,rfl,rfl,s1,e1,e2,M⟩;have la:oh (aH (i1++[a])) (-1)=!(.int (a:3)):=by rw[<- bY];show o9 _ _
 have lb:oh (aH (e++[b])) (-1)=!(.int (b:3)):=by rw[<- bY];show o9 _ _
 have j:=hF.sameH s1;let(dq,hq):=j.ins;have a0:=C.all a M.an;have b0:=C.all b M.bn;have bc:=C.f.bd c hc;have bd:=C.f.bd d hd;have d1:=M.d1;have d2:=M.d2;show {_,9,1,9,.inl {I,_,-1,.int (a:3),9,9,ak.of e1,la,?_}};show {_,9,1,9,.inl {B,_,-1,.int (b:3),9,9,ak.of e2,lb,?_}};show .inl {9,_,9,?_};show jc (λa5=>?_) (λa4=>?_)
 ·have ab:a≠b:=λz=>a5 (by rw[z])
  show {λa2 H'=>∃m',m'<(Gp.gD dep a+Gp.gD dep b).toNat/\∃(i1 e:7 4) (a b:4),m'=(Gp.gD dep a+Gp.gD dep b).toNat/\a2=[!.ref q,!(.int (c:3)),!(.int (d:3)),!.ref I,!.ref B]/\ag H H'/\H' I=!(.lst (aH (i1++[a])))/\H' B=!(.lst (aH (e++[b])))/\Gp.Pt nb n dep rt c d i1 a e b,λa2 H' z=>z,?_};have b2:=M.an;have b4:=M.bn;show {_,9,q,_,dq,_,_,9,hq,T.dD,T.dE,bV _ _ _,_,9,1,9,.inl {I,_,-1,.int (a:3),9,9,ak.of e1,la,?_}};show .inl {dA,_,(a:3),_,9,9,ak.of j.d,aq (pW ()),?_};show {_,9,q,_,dq,_,_,9,hq,T.dD,T.dE,bV _ _ _,_,9,1,9,.inl {B,_,-1,.int (b:3),9,9,ak.of e2,lb,?_}}
  show .inl {dA,_,(b:3),_,9,9,ak.of j.d,aq (pW ()),?_};show {_,_,9,9,_,9,?_}
  by_cases ap:Gp.gD dep a>=Gp.gD dep b
  ·show fb ap ?_
   let(a',p1,p2,r):=M.one hN C ab ap;have bo:=C.all a' r.an;show {_,9,.inl {9,_,ak.of e1},?_};show {_,9,q,_,dq,_,_,9,hq,T.dD,T.dG,jF _ _ _,_,9,1,9,.inl {I,_,-1,.int (a:3),9,9,ak.of e1,la,?_}};show .inl {pA,_,(a:3),_,9,9,ak.of j.p,aq (pW ()),?_};rw[p1];show ⟨I,_,_,9,9,e1,by rw[lj,sB];simp only[vl,Jo];show aw (),?_⟩;rw[bY];show ⟨(Gp.gD dep a'+Gp.gD dep b).toNat,(),i1++[a],e,a',b,9,9,ag.updN s1 aA,aa,by rw[af aC.symm];show e2,r⟩
  ·show cT ap ?_
   let(b',p1,p2,r):=M.two hN C ab ();have bt:=C.all b' r.bn;show {_,9,.inl {9,_,ak.of e2},?_};show {_,9,q,_,dq,_,_,9,hq,T.dD,T.dG,jF _ _ _,_,9,1,9,.inl {B,_,-1,.int (b:3),9,9,ak.of e2,lb,?_}};show .inl {pA,_,(b:3),_,9,9,ak.of j.p,aq (pW ()),?_};rw[p1];show ⟨B,_,_,9,9,e2,by rw[lj,sB];simp only[vl,Jo];show aw (),?_⟩;rw[bY];show ⟨(Gp.gD dep a+Gp.gD dep b').toNat,(),i1,e++[b],a,b',9,9,ag.updN s1 a1,by rw[af aC];show e1,aa,r⟩
 ·have ab:a=b:=by have:=V.int.inj a4;omega
  subst ab;show {_,9,_,9,1,9,_,9,B,_,9,ak.of e2,λu hu=>?_};have an:dm (aH (e++[a])) 8 (!(-1))=aH e:=by rw[BR,<- bY,LK]
  have s2:=ag.upd (o:=.lst (dm (aH (e++[a])) 8 (!(-1)))) hu;show {u,_,9,aa,λv hv=>?_};have s3:=ag.upd (o:=.lst (dm (aH (e++[a])) 8 (!(-1))).reverse) hv;show .inr (.inl {I,v,_,_,9,9,s3 _ _ (s2 _ _ e1),aa,?_,λx hx=>?_})
  ·rw[an,Kt,lj,lj,sB]
   show Jh (aw (by simp only[vl,Jo];omega))
  let(g1,g2):=M.ring hN;show kQ x _ (i1++[a]++e.reverse) (Gp.gD dep a) (((s1.trans s2).trans s3).trans (ag.upd hx)) (((s1.trans s2).trans s3).free hx) ?_ g1 g2;rw[aa];show some (HO.lst (aH (i1++[a])++(dm (aH (e++[a])) 8 (!(-1))).reverse))=_;rw[an];show some (HO.lst (KY (λ(p:Nat)=>V.int (p:3)) (i1++[a])++(KY (λ(p:Nat)=>V.int (p:3)) e).reverse))=!(HO.lst (KY (λ(p:Nat)=>V.int (p:3)) (i1++[a]++e.reverse)));rw[<- Oo,v0 (l₂:=e.reverse)]
def El{T:7 3}{ord:7 4}(c:T.Nodup)(h:qi T ord):Gp.By T ord:=by
 show {h.ord,λp q hp b=>{λa=>?_,λa=>h.lt c _ _ p q a (h.ord.at_ hp) (h.ord.at_ b)}};let z||z||z:=MH (ord.idxOf p) (ord.idxOf q)
 ·show z
 ·rw[h.ord.inj hp b z]at a;omega
 ·have:=h.lt c _ _ q p z (h.ord.at_ b) (h.ord.at_ hp);omega
def vT{T:7 3}{nb:7 (7 4)}(g:Gp.Gr T nb):Gp.BB nb T.length:=by
 show {g.len,g.sym,λa b h=>?_};let(_,_,k,c,d,_):=g.od a b h;omega
inductive rF(Z:Adr)(vs:7 V)(H:Hp)(Q:VK)(u3:XK):Prop
 | mk (wg lv:mu) (T:7 3) (ord:7 4):vs=[.ref wg,.ref lv]->H wg=!.lst (T.map V.int)->H lv=!.lst (aH ord)->T.Nodup->qi T ord->T.length<200->(∀(q nA dA pA:mu) (nbs:7 mu) (nb:7 (7 4)) (dep par:7 3) (rt:4->4) (H0 H':Hp),ag H H'->H q=8->Fk Z H0 H' q nA dA pA nbs nb dep par->Gp.Fo nb T.length dep par rt->Gp.Gr T nb->(∀a b,Gp.Od T a b->Gp.db nb a b)->Q (.ref q) H')->rF Z vs H Q u3
def fO:al ["wagons", "leaving", "groups", "gone", "place", "forest"] ["wagons", "leaving"] (ah ge):=by o_head AA
def nj(T:Tx K mg Z):fU P w K mg base bu 03 "forest_at_odds" ["wagons", "leaving"] (rF Z):=by
 o_head (AB T.a8 fO)
 let(wg,lv,y,ord,9,aC,cl,cn,hR,hn,kQ):=h
 o_head (AE fO (j (o 2 (O (BP T) (l 0 a))) (j (o 03 c) (j (B (J (l (t (l 0 a)) a)) (U 04) (j (p (L 2 (vR T) (l 04 a))) (k (Y (C (xQ (xH 03 (t (l 1 a))) (xR (xI (v 1 03) 04)))) (j (p (L 2 (uF T) (l (v 1 03) a))) (k (xa 03 c))))))) (j (o 05 (O (BQ T) (l (m 2) a))) (j (p (M 05 (FW T))) (k (n 05))))))))
 have hB:=El cn hR;have ol:ord.length=y.length:=by rw[hR.perm.length_eq,Jv]
 show {_,9,λq dq hq bm c0=>{q,dq,wg,y,9,aa,?_,(),λnA pr I H3 k1 k2 k3 k4 k5 k6 k7 k8 k9 cp=>{9,?_}}}
 ·rw[af (ae aC hq),af (ae aC bm)]
  show aC
 have s3:ag H H3:=λc o e=>k1 c o (by rw[af (ae e hq),af (ae e bm)];show e) (ae e hq);have a3:∀c,upd (upd H dq (.own q)) q (.ins Z.aP dq []) c=8->H c=8:=λc e=>by
  have h1:c≠q:=λz=>by rw[z,aa]at e;cases e
  rw[af h1]at e;have h2:c≠dq:=λz=>by rw[z,aa]at e;cases e
  rw[af h2]at e;show e
 have hG:Gk Z H H3 q wg nA pr I y (ra y.length []) []:=by
  show ⟨⟨dq,k2⟩,aC,k3,by rw[k4];show zg.symm,λt a e=>?_,k6,{[],k7,.nil},hq,a3 _ k8,a3 _ k9,cp,s3⟩;let(z1,z2,z3,z4):=k5 t a e;show {?_,a3 _ z2,z3,z4};rw[z1,oa,JV]
  split<;>rfl
 show {_,9,_,_,9,.inl {_,ak.of (s3 _ _ aC),9},_,9,?_,?_,?_}
 ·rw[lj];omega
 ·rw[lj];omega
 rw[lj,Ji]
 let b0:Nat->St->Hp->Prop:=λi σ H1=>∃(nb:7 (7 4)) (ps:7 (4×4)) (g:4) (v4 v5:Option V),σ=[!.ref wg,!.ref lv,!.ref q,!(.int (g:3)),v4,v5]/\Gk Z H H1 q wg nA pr I y nb ps/\Gp.J y ord i g ps.reverse nb/\g<=y.length/\(∀p,ord[g]?=!p->i<=p)
 show eJ (lo:=0) (n:=y.length) b0
  {_,[],0,8,8,9,hG,Gp.J.start,Jd _,λp _=>Jd _} ?_ ?_
 ·rintro i σ H1 hi ⟨nb,ps,g,v4,v5,rfl,r,hJ,hg,a5⟩
  rw[show (0:3)+(i:3)=(i:3) from LP _];let(a2,a4):=r.ins;let(e0,b1,b2):=hJ.bnd;rw[Kt]at b2;show {_,9,q,a2,_,9,a4,(sT _ _ _).1,_,9,H,q,wg,nA,pr,I,y,nb,ps,i,9,r,(),λH2 ca=>?_};have cg:Gp.J y ord (i+1) g (ps++[(i,i)]).reverse nb:=by rw[Ln];show hJ.come hB hi a5
  let b3:Nat->St->Hp->Prop:=λm σ H'=>∃(nb:7 (7 4)) (ps:7 (4×4)) (g:4),m=y.length-g/\σ=[!.ref wg,!.ref lv,!.ref q,!(.int (g:3)),!(.int (i:3)),v5]/\Gk Z H H' q wg nA pr I y nb ps/\Gp.J y ord (i+1) g ps.reverse nb/\g<=y.length
  show ⟨b3,
   {_,nb,ps++[(i,i)],g,9,9,ca,cg,hg},?_⟩
  rintro m σ H4 ⟨a6,a7,g4,rfl,rfl,an,ac,bn⟩;have ap:=an.same _ _ cl;show {_,9,_,9,_,_,9,.inl {_,ak.of ap,9},_,_,9,9,_,9,?_}
  by_cases cj:g4<ord.length
  ·let(wd,ew):∃wd,ord[g4]?=some wd:=⟨_,li cj⟩
   have bb:oh (aH ord) (g4:3)=!(.int (wd:3)):=aq (by rw[r6,ew];rfl);show fb (by rw[lj];omega) ?_;show {_,9,_,9,.inl {lv,_,(g4:3),.int (wd:3),9,9,ak.of ap,bb,?_}};show {_,9,_,_,9,9,_,9,?_}
   by_cases cA:wd<=i
   ·rw[decide_eq_true (show (wd:3)<=(i:3) by omega)]
    show bC ?_;show {λbT H'=>∃m',m'<y.length-g4/\∃(nb:7 (7 4)) (ps:7 (4×4)) (g:4),m'=y.length-g/\bT=[!.ref wg,!.ref lv,!.ref q,!(.int (g:3)),!(.int (i:3)),v5]/\Gk Z H H' q wg nA pr I y nb ps/\Gp.J y ord (i+1) g ps.reverse nb/\g<=y.length,λbT H' z=>z,?_};let(b4,co):=an.ins;let(bt,bA,bo,ch):=ac.leave hB () ew ();let(e4,c1,c2):=ac.bnd;rw[Kt]at c2;show {_,9,q,b4,_,9,co,(sT _ _ _).2.1,_,9,_,9,.inl {lv,_,(g4:3),.int (wd:3),9,9,ak.of ap,bb,?_}}
    show {H,q,wg,nA,pr,I,y,a6,bt,a7,bA,wd,9,an,(),ac.gra.len,λx hx=>?_,λa=>?_,bo,λH5 cd=>?_}
    ·have:=(ac.pr x (M8.mpr hx)).2.1;omega
    ·have:=c1 a;omega
    show {_,9,_,_,9,9,?_};show ⟨y.length-(g4+1),(),bt,bA.reverse,g4+1,9,9,cd,by rw[Nj];show ch,()⟩
   ·rw[decide_eq_false (show ¬ (wd:3)<=(i:3) by omega)]
    show aO ?_;show ⟨a6,a7,g4,_,_,9,an,ac,bn,λp ep=>by rw[ew]at ep;cases ep;omega⟩
  ·show cT (by rw[lj];omega) ?_
   show ⟨a6,a7,g4,_,_,9,an,ac,bn,λp ep=>by rw[Jk.mpr ()]at ep;cases ep⟩
 ·rintro σ H1 ⟨nb,ps,g,v4,v5,rfl,r,hJ,hg,a5⟩
  have ci:g=y.length:=by
   let z||z:=LH g ord.length
   ·have e1:ord[g]?=!ord[g]:=li z
    have:=a5 _ e1;have:=hB.o.lt e1;omega
   ·omega
  subst ci;let(a2,a4):=r.ins;have nl:I.length=y.length:=by rw[r.len,hJ.gra.len]
  show ⟨_,9,q,_,a2,_,_,9,a4,T.dI,T.dK,fh _ _ _,λq2 ab aA a1 cv=>⟨q2,ab,nA,I.map V.ref,9,aa,?_,by rw[lj];omega,λdA pA H5 j1 j2 j3 j4 j5 j6 j7=>{9,?_}⟩⟩
  ·rw[af (ae r.stk aA),af (ae r.stk a1)]
   show r.stk
  rw[lj,nl]at j3 j4;have s5:ag H1 H5:=λc o e=>j1 c o (by rw[af (ae e aA),af (ae e a1)];show e) (ae e aA);have a0:∀c,upd (upd H1 ab (.own q2)) q2 (.ins Z.aO ab []) c=8->H1 c=8:=λc e=>by
   have h1:c≠q2:=λz=>by rw[z,aa]at e;cases e
   rw[af h1]at e;have h2:c≠ab:=λz=>by rw[z,aa]at e;cases e
   rw[af h2]at e;show e
  have hF:Fk Z H1 H5 q2 nA dA pA I nb (ra y.length (-1)) (ra y.length (-1)):=
   {⟨ab,j2⟩,r.stk,r.len,λt a e=>(r.each t a e).1,j3,j4,aA,a0 _ j5,a0 _ j6,j7,s5}
  show {_,9,q2,ab,_,9,j2,(vS _ _ _).1,H1,q2,nA,dA,pA,I,nb,y.length,9,hF,vT hJ.gra,(),λdep ct rt H6 bc b5=>?_};show ⟨_,9,kQ q2 nA dA pA I nb dep ct rt H1 H6 (r.same.trans bc.same) (r.same.free aA) bc b5 hJ.gra λa b bd=>hJ.com a b bd (by let(h1,_,k,h2,h3,_):=bd;rw[<- ol];show KG.mpr ((hB.o.mem a).mpr ()))⟩
def uP(a d c b:mu)(g:3):7 (xD×V):=[("leaving",.ref a),("tracks",.ref d),("stacks",.ref c),("gone",.int g),("moves",.ref b)]
def jK(a d c b:mu)(g:3):(uP a d c b g).lookup ("leaving":xD)=!.ref a:=9
def lE(b a d c:mu)(g:3):(uP b a d c g).lookup ("tracks":xD)=!.ref a:=9
def il(b d a c:mu)(g:3):(uP b d a c g).lookup ("stacks":xD)=!.ref a:=9
def mz(a d c b:mu)(g:3):(uP a d c b g).lookup ("gone":xD)=!.int g:=9
def nk(b d c a:mu)(g:3):(uP b d c a g).lookup ("moves":xD)=!.ref a:=9
def DP(a d c b:mu)(g g':3):aZ "gone" (.int g') (uP a d c b g)=uP a d c b g':=9
def DQ(a d c b:mu):aZ "moves" (.ref b) (aZ "gone" (.int 0) (aZ "stacks" (.ref c) (aZ "tracks" (.ref d) (aZ "leaving" (.ref a) []))))=uP a d c b 0:=9
def jL(a d c b:mu)(g:3):(uP a d c b g).lookup ("let_all_come":xD)=8/\(uP a d c b g).lookup ("let_those_leave_that_can":xD)=8/\(uP a d c b g).lookup ("is_done":xD)=8/\(uP a d c b g).lookup ("covered":xD)=8/\(uP a d c b g).lookup ("cover":xD)=8:=⟨9,9,9,9,9⟩
structure Sk(Z:Adr)(H0 H:Hp)(q lv tr sk mv:mu)(sks:7 mu)(ord ar:7 4)(s:Sh.S):Prop where
 ins:∃dq,H q=!(.ins Z.aQ dq (uP lv tr sk mv (s.gone:3)))
 lv0:H0 lv=!.lst (aH ord)
 tr0:H0 tr=!.lst (aH ar)
 stk:H sk=!.lst (sks.map V.ref)
 len:sks.length=s.st.length
 each:∀(t:4) (a:mu),sks[t]?=!a->H a=!.lst (aH (s.st.getD t []))/\H0 a=8/\a≠mv/\a≠sk
 apart:∀(t u:4) (a b:mu),sks[t]?=!a->sks[u]?=!b->t≠u->a≠b
 mov:cw H mv s.mv
 q0:H0 q=8
 k0:H0 sk=8
 m0:H0 mv=8
 ms:mv≠sk
 same:ag H0 H
section
variable {H0 H:Hp} {q lv tr sk mv:mu} {sks:7 mu} {ord ar:7 4} {s:Sh.S}
def Sk.sameH(h:Sk Z H0 H q lv tr sk mv sks ord ar s){b:Hp}(e:ag H b):Sk Z H0 b q lv tr sk mv sks ord ar s:=
 ⟨let ⟨i,z⟩:=h.ins;⟨i,e _ _ z⟩,h.lv0,h.tr0,e _ _ h.stk,h.len,λt a z=>let ⟨j,r⟩:=h.each t a z;{e _ _ j,r},h.apart,h.mov.same e,h.q0,h.k0,h.m0,h.ms,h.same.trans e⟩
def Sk.setS(h:Sk Z H0 H q lv tr sk mv sks ord ar s){t:4}{a:mu}(e:sks[t]?=!a)(c:7 4):Sk Z H0 (upd H a (.lst (aH c))) q lv tr sk mv sks ord ar {s.st.set t c,s.gone,s.mv}:=by
 let(n,y,B,C):=h.each t a e;have E:t<s.st.length:=by rw[<- h.len];show (op.mp e).1
 show ⟨?_,h.lv0,h.tr0,by rw[af C.symm];show h.stk,by rw[Kd];show h.len,λu b i=>?_,h.apart,h.mov.put B.symm (λxs z=>by rw[n]at z;cases z),h.q0,h.k0,h.m0,h.ms,ag.updN h.same y⟩
 ·let(v,z):=h.ins
  show ⟨v,by rw[af (bh z n λw=>by cases w)];show z⟩
 ·show upd H a _ b=!.lst (aH ((s.st.set t c).getD u []))/\_
  rw[Sh.jk E];let(D,r):=h.each u b i
  by_cases j:u=t
  ·subst j
   have:b=a:=vb (i.symm.trans e);subst this;rw[if_pos 9];show ⟨aa,r⟩
  ·rw[if_neg j,af (h.apart u t b a i e j)]
   show ⟨D,r⟩
def Sk.addM(h:Sk Z H0 H q lv tr sk mv sks ord ar s){t:mu}(n:H t=8)(m:Yd.Mv){i:7 mu}(e:H mv=!.lst (i.map V.ref))(hp:Paired (Eh H) i s.mv):
  Sk Z H0 (upd (upd H t (.tup [.str (sg m.1),.int (m.2:3)])) mv (.lst (i.map V.ref++[.ref t]))) q lv tr sk mv sks ord ar {s.st,s.gone,s.mv++[m]}:=by
 have a:=ag.upd (o:=.tup [.str (sg m.1),.int (m.2:3)]) n;have E:t≠mv:=(ae e n).symm;show ⟨?_,h.lv0,h.tr0,by rw[af h.ms.symm];show a _ _ h.stk,h.len,λu b D=>?_,h.apart,⟨i++[t],by rw[aa,v0];rfl,?_⟩,h.q0,h.k0,h.m0,h.ms,ag.updN (h.same.trans a) h.m0⟩
 ·let(v,z):=h.ins
  show ⟨v,by rw[af (bh z e λw=>by cases w)];show a _ _ z⟩
 ·let(y,B,j,C):=h.each u b D
  show ⟨by rw[af j];show a _ _ y,B,j,C⟩
 ·show Paired.snoc' (Paired.imp (λr I z=>?_) hp) ?_
  ·unfold Eh at z ⊢
   rw[af (bh z e λw=>by cases w)];show a _ _ z
  ·unfold Eh
   rw[af E,aa]
def Sk.setG(h:Sk Z H0 H q lv tr sk mv sks ord ar s)(g:4){j:mu}:Sk Z H0 (upd H q (.ins Z.aQ j (uP lv tr sk mv (g:3)))) q lv tr sk mv sks ord ar ⟨s.st,g,s.mv⟩:=by
 let(t,z):=h.ins;have i:∀{a:mu} {xs:7 V},H a=!.lst xs->a≠q:=λ{a xs} e=>bh e z λw=>by cases w
 let(y,e,_):=h.mov;show ⟨⟨j,aa⟩,h.lv0,h.tr0,by rw[af (i h.stk)];show h.stk,h.len,λu b v=>let ⟨n,r⟩:=h.each u b v;⟨by rw[af (i n)];show n,r⟩,h.apart,h.mov.put (i e) (λxs w=>by rw[z]at w;cases w),h.q0,h.k0,h.m0,h.ms,ag.updN h.same h.q0⟩
end
inductive pX(Z:Adr)(vs:7 V)(H:Hp)(Q:VK)(u3:XK):Prop
 | mk (H0:Hp) (q lv tr sk mv:mu) (sks:7 mu) (ord ar:7 4) (s:Sh.S):vs=[.ref q]->Sk Z H0 H q lv tr sk mv sks ord ar s->Q (.bl (decide (s.gone=ord.length))) H->pX Z vs H Q u3
def d7:al ["self"] ["self"] (ah eS):=by o_head AA
def rG(T:Tx K mg Z):cM P w K mg base bu 1 Z.aQ "is_done" ["self"] (pX Z):=by
 o_head (AC T.dS T.e4 d7)
 let(y,q,z,I,C,B,r,ord,ar,st,9,e,p):=h
 o_head (AE d7 (k (n (xx (m 0) (t (l (m 0) a))))))
 let(j,o):=e.ins;show {_,9,q,_,j,_,_,9,o,T.dS,T.dT,mz _ _ _ _ _,_,9,q,_,j,_,_,9,o,T.dS,T.dU,jK _ _ _ _ _,_,_,9,.inl {_,ak.of (e.same _ _ e.lv0),9},.inl {9,?_}};rw[CM,lj,show decide ((st.gone:3)=(ord.length:3))=decide (st.gone=ord.length) from decide_eq_decide.mpr ()];show p
inductive pY(Z:Adr)(vs:7 V)(H:Hp)(Q:VK)(u3:XK):Prop
 | mk (H0:Hp) (q lv tr sk mv:mu) (sks:7 mu) (ord ar:7 4) (s:Sh.S) (f:4):vs=[.ref q]->Sk Z H0 H q lv tr sk mv sks ord ar s->ord[s.gone]?=!f->Q (.int (f:3)) H->pY Z vs H Q u3
def d8:al ["self"] ["self"] (ah eU):=by o_head AA
def nq(T:Tx K mg Z):cM P w K mg base bu 1 Z.aQ "covered" ["self"] (pY Z):=by
 o_head (AC T.dS T.e5 d8)
 let(B,q,y,M,I,C,z,ord,ar,st,f,9,e,p,r):=h
 o_head (AE d8 (k (n (v (m 0) (m 0)))))
 let(j,o):=e.ins;show ⟨_,9,q,_,j,_,_,9,o,T.dS,T.dU,jK _ _ _ _ _,_,9,q,_,j,_,_,9,o,T.dS,T.dT,mz _ _ _ _ _,.inl ⟨y,_,(st.gone:3),.int (f:3),9,9,ak.of (e.same _ _ e.lv0),aq (by rw[r6,p];rfl),r⟩⟩
inductive uH(Z:Adr)(vs:7 V)(H:Hp)(Q:VK)(u3:XK):Prop
 | mk (H0:Hp) (q lv tr sk mv:mu) (sks:7 mu) (ord ar:7 4) (s:Sh.S) (f c k:4):vs=[.ref q]->Sk Z H0 H q lv tr sk mv sks ord ar s->ord[s.gone]?=!f->f<ar.length->ar.getD f 0<s.st.length->(s.st.getD (ar.getD f 0) [])[k]?=!f->(s.st.getD (ar.getD f 0) [])[k+1]?=!c->(∀k'<k,(s.st.getD (ar.getD f 0) [])[k']?≠some f)->(∀x∈s.st.getD (ar.getD f 0) [],x<1000)->(s.st.getD (ar.getD f 0) []).length<=1000->Q (.int (c:3)) H->uH Z vs H Q u3
def fP:al ["self", "stack"] ["self"] (ah gf):=by o_head AA
def DR(T:Tx K mg Z):cM P w K mg base bu 2 Z.aQ "cover" ["self"] (uH Z):=by
 o_head (AC T.dS T.e6 fP)
 let(H0,q,lv,tr,sk,mv,r,ord,ar,st,f,c,k,9,e,hf,DH,an,ek,ec,ac,hx,a1,kQ):=h;refine' {_,?hterm,?_}
 case hterm=>
  have c:=fP;refine' ai ?q1 ?q2
  case q1=>o_head (o 1 (v (m 0) (v (m 0) (M 0 (nq T)))))
  case' q2=>refine' ax ?q8
  case' q8=>refine' fS ?q9
  case' q9=>refine' wv (Fl (K:=K) (by rfl)) (pv 1) ?ap (λ_ _=>rfl)
  case' ap=>refine' kG (lR (K:=K) (by rfl)) ?aA fR
  case' aA=>refine' rZ (K:=K) (by rfl) PySem.F.plainAttrs_list PySem.F.slot_list_index PySem.F.type_list_index (A8 (K:=K) (by rfl)) (pv 1) ?aC
  case aC=>o_head (l (M 0 (nq T)) a)
 let(B,C):=e.ins;let(a,ea):∃a,r[ar.getD f 0]?=some a:=⟨_,li (by rw[e.len];show an)⟩;let(I,_):=e.each _ a ea;have ab:ar[f]?=!ar.getD f 0:=by rw[oa,li DH];rfl
 show {_,9,q,_,B,_,_,9,C,T.dS,T.dW,il _ _ _ _ _,_,9,q,_,B,_,_,9,C,T.dS,T.dX,lE _ _ _ _ _,_,9,q,B,_,9,C,(jL _ _ _ _ _).2.2.2.1,?_};show {H0,q,lv,tr,sk,mv,r,ord,ar,st,f,9,e,hf,?_};show .inl ⟨tr,_,(f:3),.int ((ar.getD f 0:4):3),9,9,ak.of (e.same _ _ e.tr0),aq (by rw[r6,ab];rfl),?_⟩;show .inl ⟨sk,_,((ar.getD f 0:4):3),.ref a,9,9,ak.of e.stk,aq (by rw[r6,ea];rfl),?_⟩;show {_,9,_,9,.inl {9,_,ak.of I},_,9,q,B,_,9,C,(jL _ _ _ _ _).2.2.2.1,?_};show {H0,q,lv,tr,sk,mv,r,ord,ar,st,f,9,e,hf,?_}
 have j:(f:3)∈(st.st.getD (ar.getD f 0) []).map λ(p:Nat)=>(p:3):=Li.mpr {f,xA ek,9};show ⟨a,(st.st.getD (ar.getD f 0) []).map λ(p:Nat)=>(p:3),(f:3),9,9,ak.of (by rw[I,qT]),by rw[lj];omega,λz hz=>?_,j,?_⟩
 ·let(p,hp,9):=Li.mp hz
  have:=hx p hp;omega
 have y:((st.st.getD (ar.getD f 0) []).map λ(p:Nat)=>(p:3)).idxOf (f:3)=k:=by
  have h1:((st.st.getD (ar.getD f 0) []).map λ(p:Nat)=>(p:3))[k]?=!(f:3):=by rw[r6,ek];rfl
  let z||z||z:=MH (((st.st.getD (ar.getD f 0) []).map λ(p:Nat)=>(p:3)).idxOf (f:3)) k
  ·exfalso
   have hl:=KG.mpr j;have h2:((st.st.getD (ar.getD f 0) []).map λ(p:Nat)=>(p:3))[((st.st.getD (ar.getD f 0) []).map λ(p:Nat)=>(p:3)).idxOf (f:3)]?=!(f:3):=by rw[li hl,NJ]
   rw[r6]at h2;let(p,hp,ep):=Kf.mp h2;have:p=f:=()
   rw[this]at hp;show ac _ z hp
  ·show z
  ·exfalso
   have:=OD (p:=λx=>x==(f:3)) (xs:=(st.st.getD (ar.getD f 0) []).map λ(p:Nat)=>(p:3)) (i:=k) (by unfold List.idxOf at z;show z);let(a0,ez):=op.mp h1;rw[ez]at this;simp at this
 rw[y];show .inl {(k:3),1,9,9,?_};show .inl ⟨a,_,(k:3)+1,.int (c:3),9,9,ak.of I,by rw[show (k:3)+1=((k+1:4):3) from ()];show aq (by rw[r6,ec];rfl),kQ⟩
structure DS(ord ar:7 4)(many n:4):Prop where
 o:Sh.qR ord n
 ol:ord.length=n
 tl:ar.length=n
 tm:∀p,p<n->ar.getD p 0<many
 nl:n<=200
inductive js(Z:Adr)(vs:7 V)(H:Hp)(Q:VK)(u3:XK):Prop
 | mk (H0:Hp) (q lv tr sk mv:mu) (sks:7 mu) (ord ar:7 4) (many n:4) (s:Sh.S):vs=[.ref q]->Sk Z H0 H q lv tr sk mv sks ord ar s->DS ord ar many n->s.st.length=many->s.mv.length<=300+s.gone->s.gone<=n->(∀(s':Sh.S) (H':Hp),Sh.oi ord ar s s'->Sh.out ord ar s'=8->Sk Z H0 H' q lv tr sk mv sks ord ar s'->s'.st.length=many->s'.mv.length<=300+s'.gone->s'.gone<=n->Q .non H')->js Z vs H Q u3
def be:al ["self", "wanted", "track"] ["self"] (ah bg):=by o_head AA
def fj(T:Tx K mg Z):cM P w K mg base bu 03 Z.aQ "let_those_leave_that_can" ["self"] (js Z):=by
 o_head (AC T.dS T.e3 be)
 let(H0,q,lv,tr,sk,mv,I,ord,ar,an,n,st,9,hS,hW,bT,bn,bd,kQ):=h;refine' {_,?hterm,?_}
 case hterm=>
  have c:=be;refine' ax ?q1
  case' q1=>refine' tG HP ?q2 ?q3
  case q2=>o_head (w (s (M 0 (rG T))))
  case' q3=>refine' ai ?q6 ?q7
  case q6=>o_head (o 1 (v (m 0) (m 0)))
  case' q7=>refine' ai ?b1 ?b2
  case b1=>o_head (o 2 (v (m 0) 1))
  case' b2=>refine' ai ?b3 ?b4
  case b3=>
   refine' cb ?b5 ?ca a9
   case b5=>o_head (xG (xc (v (m 0) 2) (S (y c)) i) (z (l 1 a)))
   case' ca=>refine' ax ?cd
   case cd=>show Ch
  case' b4=>refine' ai ?cg ?ch
  case cg=>o_head (p (xS (v (m 0) 2)))
  case' ch=>refine' ai ?ci ?cj
  case ci=>o_head (p (D (m 0) (l (A (l f (l 2 a))) a)))
  case' cj=>refine' ax ?cl
  case cl=>show lg (K:=K) (by rfl) (pv 0) fR va
 let a6:Nat->St->Hp->Prop:=λm σ H1=>∃(e:Sh.S) (v1 v2:Option V),m=n-e.gone/\σ=[!.ref q,v1,v2]/\Sh.oi ord ar st e/\Sk Z H0 H1 q lv tr sk mv I ord ar e/\e.st.length=an/\e.mv.length<=300+e.gone/\e.gone<=n
 show {a6,{_,st,8,8,9,9,.refl _,hS,bT,bn,bd},?_};rintro m σ H1 ⟨e,v1,v2,rfl,rfl,hO,j,r,ac,ab⟩;let(dq,hq):=j.ins;show {_,9,q,dq,_,9,hq,(jL _ _ _ _ _).2.2.1,H0,q,lv,tr,sk,mv,I,ord,ar,e,9,j,_,9,?_}
 by_cases hd:e.gone=ord.length
 ·show hV hd ?_
  show kQ e H1 hO ?_ j r ac ab;unfold Sh.out;rw[Jk.mpr ()]
 ·show AV hd ?_
  have bm:e.gone<ord.length:=by have:=hW.ol;omega
  let(wd,ew):∃wd,ord[e.gone]?=some wd:=⟨_,li bm⟩;have a4:=hW.o.lt ew;have bb:ar[wd]?=!ar.getD wd 0:=by rw[oa,li (by rw[hW.tl];show a4)];rfl
  have b0:=hW.tm wd a4;let(a,ea):∃a,I[ar.getD wd 0]?=some a:=⟨_,li (by rw[j.len,r];show b0)⟩;let(e1,e2,e3,e4):=j.each _ a ea;show {λa5 H'=>∃m',m'<n-e.gone/\∃(s2:Sh.S) (v1 v2:Option V),m'=n-s2.gone/\a5=[!.ref q,v1,v2]/\Sh.oi ord ar st s2/\Sk Z H0 H' q lv tr sk mv I ord ar s2/\s2.st.length=an/\s2.mv.length<=300+s2.gone/\s2.gone<=n,λa5 H' z=>z,?_};show ⟨_,9,q,_,dq,_,_,9,hq,T.dS,T.dU,jK _ _ _ _ _,_,9,q,_,dq,_,_,9,hq,T.dS,T.dT,mz _ _ _ _ _,.inl ⟨lv,_,(e.gone:3),.int (wd:3),9,9,ak.of (j.same _ _ j.lv0),aq (by rw[r6,ew];rfl),?_⟩⟩
  show ⟨_,9,q,_,dq,_,_,9,hq,T.dS,T.dX,lE _ _ _ _ _,_,9,.inl ⟨tr,_,(wd:3),.int ((ar.getD wd 0:4):3),9,9,ak.of (j.same _ _ j.tr0),aq (by rw[r6,bb];rfl),?_⟩⟩;show ⟨_,9,q,_,dq,_,_,9,hq,T.dS,T.dW,il _ _ _ _ _,_,9,.inl ⟨sk,_,((ar.getD wd 0:4):3),.ref a,9,9,ak.of j.stk,aq (by rw[r6,ea];rfl),?_⟩⟩;show {_,9,_,9,a,_,9,ak.of e1,λu hu=>?_};have a0:dm (aH (e.st.getD (ar.getD wd 0) [])) (!(-1)) 8=((e.st.getD (ar.getD wd 0) []).getLast?.toList.map λ(p:Nat)=>(p:3)).map V.int:=by
   rw[ze,qS,NT];cases (e.st.getD (ar.getD wd 0) []).getLast?<;>rfl
  have ap:dm (aH (e.st.getD (ar.getD wd 0) [])) (!(-(1:3))) 8=((e.st.getD (ar.getD wd 0) []).getLast?.toList.map λ(p:Nat)=>(p:3)).map V.int:=a0;rw[ap];show ⟨_,9,(by show 1<=sizeLine;decide),λx hx=>.inr {dI ((e.st.getD (ar.getD wd 0) []).getLast?.toList.map λ(p:Nat)=>(p:3)),dI [(wd:3)],.ints (ak.of (aj aa hx)),.ints (ak.of aa),aG _ _,aG _ _,_,9,?_}⟩;have sA:ag H1 (upd (upd H1 u (.lst (((e.st.getD (ar.getD wd 0) []).getLast?.toList.map λ(p:Nat)=>(p:3)).map V.int))) x (.lst [.int (wd:3)])):=(ag.upd hu).trans (ag.upd hx);have B:=j.sameH sA;show jc (λbo=>?_) (λbc=>?_)
  ·show kQ e _ hO ?_ B r ac ab
   unfold Sh.out;rw[ew];show if_neg λz=>bo (by rw[wX.mpr z])
  ·have C:(e.st.getD (ar.getD wd 0) []).getLast?=!wd:=wX.mp (ll bc)
   have a2:Sh.out ord ar e=some {e.st.set (ar.getD wd 0) (e.st.getD (ar.getD wd 0) []).dropLast,e.gone+1,e.mv++[(5,ar.getD wd 0)]}:=by
    unfold Sh.out;rw[ew];show if_pos C
   let(a7,bt):=B.ins;let(f1,f2,f3,f4):=B.each _ a ea;show ⟨_,9,q,_,a7,_,_,9,bt,T.dS,T.dW,il _ _ _ _ _,_,9,.inl ⟨sk,_,((ar.getD wd 0:4):3),.ref a,9,9,ak.of B.stk,aq (by rw[r6,ea];rfl),?_⟩⟩;show {.inl {9,_,ak.of f1},.inl {a,_,.int (wd:3),9,9,f1,?_,?_}}
   ·rw[lj,r6,<- Ke,C]
    rfl
   rw[<- MI];have aA:=B.setS ea (e.st.getD (ar.getD wd 0) []).dropLast;let(a8,bA):=aA.ins;let(rs,em,pm):=aA.mov;show {_,9,q,_,a8,_,_,9,bA,T.dS,T.dV,nk _ _ _ _ _,.inl {9,_,ak.of em},?_};show ⟨_,9,(by show 2<=sizeLine;decide),λt ht=>{mv,_,_,9,9,aj em ht,?_,?_}⟩
   ·rw[lj,Paired.length pm]
    show aw (by have:=hW.nl;show e.mv.length<=_;omega)
   have a1:=aA.addM ht (5,ar.getD wd 0) em pm;let(aC,a3):=a1.ins;show ⟨_,9,q,_,aC,_,_,9,a3,T.dS,T.dT,mz _ _ _ _ _,(e.gone:3),1,9,9,aC,_,a3,(by show 05<1000;decide),?_⟩;rw[DP];show ⟨n-(e.gone+1),by have:=hW.ol;omega,{e.st.set (ar.getD wd 0) (e.st.getD (ar.getD wd 0) []).dropLast,e.gone+1,e.mv++[(5,ar.getD wd 0)]},_,_,9,9,.step hO a2,a1.setG (e.gone+1),by rw[Kd];show r,by rw[sB];simp only[vl,Jo];omega,by have:=hW.ol;show e.gone+1<=n;omega⟩
inductive nW(Z:Adr)(vs:7 V)(H:Hp)(Q:VK)(u3:XK):Prop
 | mk (H0:Hp) (q lv tr sk mv:mu) (sks:7 mu) (ord ar:7 4) (many n:4):vs=[.ref q]->Sk Z H0 H q lv tr sk mv sks ord ar (Sh.init many)->DS ord ar many n->(∀(s':Sh.S) (H':Hp),Sh.Bf ord ar many n s'->Sk Z H0 H' q lv tr sk mv sks ord ar s'->s'.st.length=many->s'.mv.length<=600->s'.gone<=n->Q .non H')->nW Z vs H Q u3
def ck:al ["self", "place", "track"] ["self"] (ah cI):=by o_head AA
def pZ(T:Tx K mg Z):cM P w K mg base bu 04 Z.aQ "let_all_come" ["self"] (nW Z):=by
 o_head (AC T.dS T.e2 ck)
 let(H0,q,lv,tr,sk,mv,aA,ord,ar,z,n,9,hS,I,kQ):=h
 o_head (AE ck (k (B (xW (l (m 0) a)) (N 2 (H (U 1) (H (U 2) h))) (j (p (D (v (m 0) 2) (l 1 a))) (j (p (D (m 0) (l (A (l f (l 2 a))) a))) (k (p (M 0 (fj T)))))))))
 let(a4,bd):=hS.ins;show {_,9,q,_,a4,_,_,9,bd,T.dS,T.dX,lE _ _ _ _ _,tr,9,{_,ak.of (hS.same _ _ hS.tr0)},?_}
 let a3:Nat->St->Hp->Prop:=λi σ H1=>∃(e:Sh.S) (v1 v2:Option V),σ=[!.ref q,v1,v2]/\Sh.Bf ord ar z i e/\Sk Z H0 H1 q lv tr sk mv aA ord ar e/\e.st.length=z/\e.mv.length<=i+e.gone/\e.gone<=n
 show tO (K:=K) (a:=tr) (xs:=aH ar) a3 ?_ (λi σ H1 _ h=>?_) ?_ ?_
 ·show {_,8,8,9,.zero,hS,zg,Jd _,Jd _}
 ·let(e,_,_,_,_,h1,_):=h
  show ak.of (h1.same _ _ h1.tr0)
 ·rintro i x t σ H1 hx ⟨e,v1,v2,rfl,hR,ab,y,an,C⟩ ht
  let(o,et,9):=aK hx;have hi:i<n:=by rw[<- I.tl];show (op.mp et).1
  have aC:ar.getD i 0=o:=by rw[oa,et];rfl
  have bo:o<z:=by rw[<- aC];show I.tm i hi
  have s5:ag H1 (upd H1 t (.tup [.int i,.int (o:3)])):=ag.upd ht;have ac:=ab.sameH s5;let(dq,hq):=ac.ins;let(a,ea):∃a,aA[o]?=some a:=⟨_,li (by rw[ab.len,y];show bo)⟩;let(e1,e2,e3,e4):=ac.each _ a ea;have bt:(e.st.getD o []).length<=200:=by
   let(j,_,_,_):=Sh.J.run I.o I.tm hR ();have bb:(e.st.getD o []).Nodup:=by
    rw[KZ];show (jl (λk a b h1 h2=>j.up o k a b h1 h2)).imp λh=>vu h
   have:=JI bb (l₂:=IZ i) λp hp=>J9.mpr ((j.here o p).mp hp).1;rw[Jv]at this;have:=I.nl;omega
  show {t,_,9,b9.of aa,9,_,_,9,_,_,9,9,?_};show ⟨_,9,q,_,dq,_,_,9,hq,T.dS,T.dW,il _ _ _ _ _,_,9,.inl ⟨sk,_,(o:3),.ref a,9,9,ak.of ac.stk,aq (by rw[r6,ea];rfl),?_⟩⟩;show ⟨.inl {9,_,ak.of e1},_,9,a,_,_,9,9,e1,by rw[lj];show aw (),?_⟩;have a7:aH (e.st.getD o [])++[V.int (i:3)]=aH (e.st.getD o []++[i]):=by
   show _=KY (λ(p:Nat)=>V.int (p:3)) (e.st.getD o []++[i]);rw[v0];rfl
  rw[a7];have ap:=ac.setS ea (e.st.getD o []++[i]);let(a5,bm):=ap.ins;let(rs,em,pm):=ap.mov;show {_,9,q,_,a5,_,_,9,bm,T.dS,T.dV,nk _ _ _ _ _,.inl {9,_,ak.of em},?_};show ⟨_,9,(by show 2<=sizeLine;decide),λt' a2=>{mv,_,_,9,9,aj em a2,?_,?_}⟩
  ·rw[lj,Paired.length pm]
   show aw (by have:=I.nl;show e.mv.length<=_;omega)
  have a0:=ap.addM a2 (6,o) em pm;let(a6,bn):=a0.ins;have r:Sh.wW ar e i={e.st.set o (e.st.getD o []++[i]),e.gone,e.mv++[(6,o)]}:=by
   unfold Sh.wW;rw[aC]
  show ⟨_,9,q,a6,_,9,bn,(jL _ _ _ _ _).2.1,H0,q,lv,tr,sk,mv,aA,ord,ar,z,n,Sh.wW ar e i,9,by rw[r];show a0,I,by rw[r];show (e.st.set _ _).length=_;rw[Kd];show y,by rw[r];show (e.mv++[_]).length<=300+e.gone;rw[sB];simp only[vl,Jo];have:=I.nl;omega,by rw[r];show C,λs2 H2 hO bc a8 h1 h2 h3=>?_⟩;show {s2,_,_,9,.succ hR hO bc,a8,h1,?_,h3};have hl:=Bg hO;rw[r]at hl;have a1:s2.mv.length+e.gone=(e.mv++[(6,o)]).length+s2.gone:=hl;rw[sB]at a1;simp only[vl,Jo]at a1
  omega
 ·rintro σ H1 ⟨e,v1,v2,rfl,hR,ab,y,an,C⟩
  rw[lj,I.tl]at hR an;show kQ e H1 hR ab y (by have:=I.nl;omega) C
inductive gL(Z:Adr)(vs:7 V)(H:Hp)(Q:VK)(u3:XK):Prop
 | mk (p dx lv tr:mu) (many:4):vs=[.ref p,.ref lv,.ref tr,.int many]->H p=!.ins Z.aQ dx []->many<=100->(∀(sk mv:mu) (sks:7 mu) (H':Hp),(∀c o,H c=!o->c≠p->H' c=!o)->H' p=!.ins Z.aQ dx (uP lv tr sk mv 0)->H' sk=!.lst (sks.map V.ref)->sks.length=many->(∀(t:4) (a:mu),sks[t]?=!a->H' a=!.lst []/\H a=8/\a≠mv/\a≠sk)->(∀(t u:4) (a b:mu),sks[t]?=!a->sks[u]?=!b->t≠u->a≠b)->H' mv=!.lst []->H sk=8->H mv=8->mv≠sk->Q .non H')->gL Z vs H Q u3
def gM:al ["self", "leaving", "tracks", "many"] ["self", "leaving", "tracks", "many"] (ah dN):=by o_head AA
def vU(T:Tx K mg Z):lQ P w K mg base bu 1 "Shunting" Z.aQ ["self", "leaving", "tracks", "many"] (gL Z):=by
 o_head (AD T.dR T.e1 gM)
 let(p,dx,lv,tr,M,9,hp,hm,k):=h
 o_head (AE gM (j (F 0 1) (j (F 0 2) (j (F 0 (V dN ["self", "leaving", "tracks", "many"] [none] ["track"] (J (l 03 a)) (W 0 ["track"]) (z a))) (j (F 0 c) (k (F 0 (z a))))))))
 show ⟨_,9,_,9,p,_,dx,_,9,hp,T.dS,T.dU,(by show 0<1000;decide),?_⟩;show ⟨_,9,_,9,p,_,dx,_,9,aa,T.dS,T.dX,(by show 1<1000;decide),?_⟩;show {_,9,(M:3),9,(),(),λsk y=>?_};rw[Ji];rw[wa]at y ⊢;generalize ac:upd H p (.ins Z.aQ dx (aZ "tracks" (.ref tr) (aZ "leaving" (.ref lv) [])))=H1 at y ⊢;have I:H1 p=!.ins Z.aQ dx (aZ "tracks" (.ref tr) (aZ "leaving" (.ref lv) [])):=by rw[<- ac];show aa
 have a3:∀c o,H c=!o->c≠p->H1 c=!o:=λc o e hc=>by rw[<- ac,af hc];show e
 have ab:∀c,H1 c=8->H c=8:=λc e=>by
  have hc:c≠p:=λz=>by rw[z,I]at e;cases e
  rw[<- ac,af hc]at e;show e
 let a1:Nat->St->Hp->Prop:=λi σ H2=>(∃v,σ=[v])/\ag H1 H2/\∃r:7 mu,r.length=i/\H2 sk=!.lst (r.map V.ref)/\(∀(t:4) (a:mu),r[t]?=!a->H2 a=!.lst []/\H1 a=8/\a≠sk)/\∀(t u:4) (a b:mu),r[t]?=!a->r[u]?=!b->t≠u->a≠b
 show dn (lo:=0) (n:=M) a1
  {{_,9},ag.upd y,[],9,aa,λt a e=>by simp at e,λt u a b e=>by simp at e} ?_ ?_
 ·rintro i σ H2 hi ⟨⟨v,rfl⟩,s2,r,hl,h1,h2,h3⟩
  show {Jd _,λu hu=>?_};have ap:sk≠u:=ae h1 hu;show ⟨_,aj h1 hu,?_,{_,9},ag.updN (s2.trans (ag.upd hu)) y,r++[u],by simp[hl],?_,λt a e=>?_,λt t' a b e e' ne=>?_⟩
  ·rw[lj,hl]
   show am ()
  ·rw[aa,v0]
   rfl
  ·let(_,e)||(_,9):=Thr.gn e
   ·let(z1,z2,z3):=h2 t a e
    show ⟨by rw[af z3];show aj z1 hu,z2,z3⟩
   ·show ⟨by rw[af ap.symm,aa],s2.free hu,ap.symm⟩
  ·let(_,e1)||(i1,e1):=Thr.gn e<;>let(_,e2)||(i2,e2):=Thr.gn e'
   ·show h3 t t' a b e1 e2 ne
   ·rw[e2];show ae (h2 t a e1).1 hu
   ·rw[e1];show (ae (h2 t' b e2).1 hu).symm
   ·omega
 ·rintro σ H2 ⟨_,s2,r,hl,h1,h2,h3⟩
  have a2:=s2 _ _ I;show ⟨_,9,p,_,dx,_,9,a2,T.dS,T.dW,(by show 2<1000;decide),?_⟩;show ⟨_,9,p,_,dx,_,9,aa,T.dS,T.dT,(by show 03<1000;decide),?_⟩;show {Jd _,λmv C=>?_};rw[wa]at C ⊢;have an:p≠mv:=ae aa C;have B:H2 mv=8:=by rw[af an.symm]at C;show C
  show ⟨_,9,p,_,dx,_,9,by rw[af an,aa],T.dS,T.dV,(by show 04<1000;decide),?_⟩;rw[DQ];have a0:p≠sk:=ae I y;show k sk mv r _ (λc o e hc=>?_) aa ?_ hl (λt a e=>?_) h3 ?_ (ab _ y) (ab _ (s2.free B)) (ae h1 B).symm
  ·have z:=s2 _ _ (a3 c o e hc)
   rw[af hc,af (ae z B),af hc];show z
  ·rw[af a0.symm,af (ae h1 B),af a0.symm]
   show h1
  ·let(z1,z2,z3):=h2 t a e
   have aA:a≠mv:=ae z1 B;have aC:a≠p:=(ae I z2).symm;show ⟨by rw[af aC,af aA,af aC];show z1,ab _ z2,aA,z3⟩
  ·rw[af an.symm,aa]
inductive gN(Z:Adr)(vs:7 V)(H:Hp)(Q:VK)(u3:XK):Prop
 | mk (lv tr:mu) (ord ar:7 4) (many n:4):vs=[.ref lv,.ref tr,.int many]->H lv=!.lst (aH ord)->H tr=!.lst (aH ar)->DS ord ar many n->many<=100->(∀(q sk mv:mu) (sks:7 mu) (s:Sh.S) (H':Hp),Sh.Bf ord ar many n s->Sk Z H H' q lv tr sk mv sks ord ar s->s.st.length=many->s.mv.length<=600->s.gone<=n->Q (.ref q) H')->gN Z vs H Q u3
def gO:al ["leaving", "tracks", "many", "shunting"] ["leaving", "tracks", "many"] (ah iz):=by o_head AA
def oz(T:Tx K mg Z):fU P w K mg base bu 05 "shunted_blind" ["leaving", "tracks", "many"] (gN Z):=by
 o_head (AB T.a9 gO)
 let(lv,tr,ord,ar,r,n,9,an,ap,hW,hm,k):=h
 o_head (AE gO (j (o 03 (O (vU T) (l 0 (l 1 (l 2 a))))) (j (p (M 03 (pZ T))) (k (n 03)))))
 show {_,9,_,9,_,9,λq C hq ac aC=>{q,C,lv,tr,r,9,aa,hm,λsk mv B H3 k1 k2 k3 k4 k5 k6 k7 k8 k9 aA=>{9,?_}}};have s3:ag H H3:=λc o e=>k1 c o (by rw[af (ae e hq),af (ae e ac)];show e) (ae e hq);have y:∀c,upd (upd H C (.own q)) q (.ins Z.aQ C []) c=8->H c=8:=λc e=>by
  have I:c≠q:=λz=>by rw[z,aa]at e;cases e
  rw[af I]at e;have h2:c≠C:=λz=>by rw[z,aa]at e;cases e
  rw[af h2]at e;show e
 have hS:Sk Z H H3 q lv tr sk mv B ord ar (Sh.init r):=by
  show ⟨⟨C,k2⟩,an,ap,k3,by rw[k4];show zg.symm,λt a e=>?_,k6,{[],k7,.nil},hq,y _ k8,y _ k9,aA,s3⟩;let(z1,z2,z3,z4):=k5 t a e;show {?_,y _ z2,z3,z4};rw[z1];show _=!(HO.lst (aH ((ra r ([]:7 4)).getD t [])));rw[oa,JV]
  split<;>rfl
 show {_,9,q,C,_,9,k2,(jL _ _ _ _ _).1,H,q,lv,tr,sk,mv,B,ord,ar,r,n,9,hS,hW,λs' H4 hR ab I h2 h3=>?_};show {_,9,k q sk mv B s' H4 hR ab I h2 h3}
def sU(ord:7 4)(n:4):7 3:=(IZ n).map λp=>mx (ord.take (ord.idxOf p))
inductive jM  (vs:7 V) (H:Hp) (Q:VK) (u3:XK):Prop
 | mk (lv:mu) (ord:7 4) (n:4):vs=[.ref lv]->H lv=!.lst (aH ord)->Sh.qR ord n->ord.length=n->n<=200->(∀l H',ag H H'->H l=8->H' l=!.lst ((sU ord n).map V.int)->Q (.ref l) H')->jM  vs H Q u3
def jN:al ["leaving", "lasts", "last", "place"] ["leaving"] (ah kx):=by o_head AA
def qt(T:Tx K mg Z):fU P w K mg base bu 1 "last_lesser" ["leaving"] jM:=by
 o_head (AB T.bA jN)
 let(lv,ord,n,9,ab,hO,hl,hn,k):=h
 o_head (AE jN (j (o 1 (xw (z (l (y c) a)) (t (l 0 a)))) (j (o 2 (y c)) (j (B (I 0) (U 03) (j (Z 2 (xZ 1 03)) (k (o 2 (xf (l 2 (l 03 a))))))) (k (n 1))))))
 show ⟨1,9,(by show 1<=sizeLine;decide),λe he=>?_⟩;show ⟨_,9,_,_,9,.inl {_,ak.of (aj ab he),9},.inr ⟨e,_,_,9,9,aa,(),by rw[lj,hl];omega,?_,λl M=>?_⟩⟩
 ·rw[lj,hl]
  show Jh (aw (by show 1*_<=_;omega))
 have C:((aH ord).length:3).toNat=n:=by rw[lj,hl];show Ji n
 rw[C];have s1:ag H (upd (upd H e (.lst [.int (-1)])) l (.lst (ra n [V.int (-1)]).flatten)):=(ag.upd he).trans (ag.upd M);have ac:H l=8:=(ag.upd he).free M;have an:(ra n [V.int (-1)]).flatten=(ra n (-1:3)).map V.int:=by
  rw[Nd];clear C s1 M hO hl hn k
  induction n with
  | zero=>rfl
  | succ n ih=>rw[JW,LN,ih,JW];rfl
 rw[an]at s1 ⊢;show {1,9,?_}
 let ap:Nat->St->Hp->Prop:=λi σ H2=>∃(L:7 3) (v:Option V),σ=[!.ref lv,!.ref l,!.int (mx (ord.take i)),v]/\ag H H2/\H2 l=!.lst (L.map V.int)/\L.length=n/\∀(j p:4),j<i->ord[j]?=!p->L[p]?=!mx (ord.take j)
 show ⟨_,9,lv,9,{_,ak.of (s1 _ _ ab)},aT (K:=K) (a:=lv) (xs:=aH ord) ap
  {_,8,9,s1,aa,zg,λj p hj=>absurd hj (OL _)} (λi σ H2 _ ⟨L,v,z1,z2,z3⟩=>ak.of (z2 _ _ ab)) ?_ ?_⟩
 ·rintro i x σ H2 hx ⟨L,v,rfl,s2,h2,hL,hd⟩
  let(p,ep,9):=aK hx;have hp:=hO.lt ep;show ⟨_,9,_,9,_,9,l,_,(p:3),p,9,9,h2,fB (by rw[lj,hL];show hp),?_⟩;show {_,9,_,9,_,_,9,?_};show ⟨L.set p (mx (ord.take i)),!(.int (p:3)),?_,ag.updN s2 ac,?_,by rw[Kd];show hL,λj r hj er=>?_⟩
  ·rw[aP ep,C8]
   rfl
  ·rw[aa,Ma]
  ·let c||c:=LH j i
   ·have aA:p≠r:=λz=>by
     rw[z]at ep;have:=hO.idx ep;have:=hO.idx er;omega
    rw[JN aA];show hd j r c er
   ·have:j=i:=()
    subst this;have:p=r:=vb (ep.symm.trans er);subst this;rw[Jm (by rw[hL];show hp)]
 ·rintro σ H2 ⟨L,v,rfl,s2,h2,hL,hd⟩
  show {_,9,k l H2 s2 ac ?_};rw[h2];congr 2;congr 1;show KQ λp=>?_;unfold sU;rw[r6]
  by_cases hp:p<n
  ·rw[LI hp]
   show hd _ p ?_ (hO.at_ hp);rw[lj];show KG.mpr ((hO.mem p).mpr hp)
  ·rw[Jk.mpr (),Jk.mpr (by rw[Jv];omega)]
   rfl
def Em(a b:mu):7 (xD×V):=[("places",.ref a),("shown",.ref b)]
def DT(a b:mu):aZ "shown" (.ref b) (aZ "places" (.ref a) [])=Em a b:=9
inductive jO(C:mu)(vs:7 V)(H:Hp)(Q:VK)(u3:XK):Prop
 | mk (p dx a b:mu) (xs ys:7 V):vs=[.ref p,.ref a,.ref b]->H p=!.ins C dx []->H a=!.lst xs->H b=!.lst ys->(∀(u v:mu) (H':Hp),H' p=!.ins C dx (Em u v)->(∀c o,H c=!o->c≠p->H' c=!o)->H' u=!.lst xs->H' v=!.lst ys->H u=8->H v=8->u≠v->Q .non H')->jO C vs H Q u3
def nX:al ["self", "places", "shown"] ["self", "places", "shown"] (ah oY):=by o_head AA
def rJ(T:Tx K mg Z):lQ P w K mg base bu 1 "Odd" Z.aJ ["self", "places", "shown"] (jO Z.aJ):=by
 o_head (AD T.cQ T.eD nX)
 let(p,M,a,b,xs,ys,9,hp,ha,hb,k):=h
 o_head (AE nX (j (F 0 (xl (l 1 a))) (k (F 0 (xl (l 2 a))))))
 have ab:a≠p:=bh ha hp λw=>by cases w
 have I:b≠p:=bh hb hp λw=>by cases w
 show {_,9,a,xs,9,.inl (ak.of ha),λu r=>?_};have z:u≠p:=(ae hp r).symm;show ⟨_,9,p,_,M,_,9,aj hp r,T.cT,T.cV,(by show 0<1000;decide),?_⟩;show ⟨_,9,b,ys,9,.inl (ak.of (by rw[af I];show aj hb r)),λv y=>?_⟩;have C:v≠p:=(ae aa y).symm;have B:upd H u (.lst xs) v=8:=by rw[af C]at y;show y
 show ⟨_,9,p,_,M,_,9,aj aa y,T.cT,T.cW,(by show 1<1000;decide),?_⟩;rw[DT];show k u v _ aa (λc o e hc=>?_) ?_ ?_ r ((ag.upd r).free B) (ae aa B)
 ·rw[af hc]
  show aj ?_ y;rw[af hc];show aj e r
 ·rw[af z]
  show aj ?_ y;rw[af z,aa]
 ·rw[af C,aa]
inductive uI where
 | sh (mA:mu) (gs:7 Gm)
 | od (pA sA:mu) (ring shw:7 4)
def IA(C:mu)(H:Hp)(p pA a:mu)(ring b:7 4):Prop:=∃c,H p=!.ins C c (Em pA a)/\H pA=!.lst (aH ring)/\H a=!.lst (aH b)/\pA≠a
def uI.At(Z:Adr)(H:Hp)(p:mu):uI->Prop
 | .sh b gs=>ua Z.aH H p b gs/\gs.length<=999/\Iw 2 gs
 | .od pA e ring a=>IA Z.aJ H p pA e ring a
def uI.ok(T:7 3):uI->Prop
 | .sh _ gs=>bQ T 6 2 gs=6
 | .od _ _ ring a=>rf T ring a
def uI.fresh(H:Hp):uI->Prop
 | .sh a _=>H a=8
 | .od pA b _ _=>H pA=8/\H b=8
inductive BS(Z:Adr)(vs:7 V)(H:Hp)(Q:VK)(u3:XK):Prop
 | mk (a:mu) (T:7 3):vs=[.ref a]->H a=!.lst (T.map V.int)->T.Nodup->T.length<200->ow Z H->(∀(p:mu) (an:uI) (H':Hp),ag H H'->H p=8->an.At Z H' p->an.ok T->an.fresh H->Q (.ref p) H')->BS Z vs H Q u3
def mB:al ["train", "wagons", "leaving", "forest", "shunting", "ring", "lasts"] ["train"] (ah fu):=by o_head AA
def jP(T:Tx K mg Z):fU P w K mg base bu 07 "two_blind" ["train"] (BS Z):=by
 o_head (AB T.bB mB)
 let(a,C,9,ha,an,hz,ca,k):=h
 o_head (AE mB (j (o 1 (r (iD T) (l 0 a))) (j (o 2 (r (fJ T) (l 1 a))) (j (o 03 (r (nj T) (l 1 (l 2 a)))) (j (o 04 (r (oz T) (l 2 (l (V fu ["train", "wagons", "leaving", "forest", "shunting", "ring", "lasts"] [none] ["depth"] (I (m 03)) (W 0 ["depth"]) (xu 0 c)) (l c a))))) (j (q (s (M 04 (rG T))) (k (n (O (rn T) (l (m 04) a)))) d) (j (o 05 (L 03 (FX T) (l (M 04 (nq T)) (l (M 04 (DR T)) a)))) (j (X 06 (r (qt T) (l 2 a))) (k (n (O (rJ T) (l 05 (l (V fu ["train", "wagons", "leaving", "forest", "shunting", "ring", "lasts"] [none,none,some 06] ["one", "other", "lasts"] (xX (l 05 (l (R (xc 05 (S c) i) (xc 05 i (S c))) a))) (N 2 (H (W 0 ["one", "other", "lasts"]) (H (W 1 ["one", "other", "lasts"]) h))) (v 2 (xg (l 0 (l 1 a))))) a)))))))))))))
 show {_,9,a,C,9,ha,hz,an,λwA H1 s1 f1 h1=>?_};show {_,9,wA,C,9,h1,(),ca.same s1,λlv H2 ord s2 f2 hR h2=>?_};show {_,9,_,9,wA,lv,C,ord,9,s2 _ _ h1,h2,an,hR,hz,λq nA dA pA el nb dep en rt H0 H3 s3 f3 hF a8 bb cd=>?_};have hB:=El an hR;have ol:ord.length=C.length:=by rw[hR.perm.length_eq,Jv]
 let(dq,hq):=hF.ins;have dt:=a8.f.dl;show {_,9,_,9,q,_,dq,_,_,9,hq,T.dD,T.dE,bV _ _ _,dA,9,{_,ak.of hF.d},λl hl=>?_}
 let ar:List Nat:=dep.map λz=>(z%2).toNat
 let c1:Nat->St->Hp->Prop:=λi σ H4=>(∃v,σ=[v])/\ag H3 H4/\H4 l=!.lst (aH (ar.take i))
 show aW (K:=K) (a:=dA) (xs:=dep.map V.int) c1
  {{_,9},ag.upd hl,aa} (λi σ H4 _ h=>ak.of (h.2.1 _ _ hF.d)) ?_ ?_
 ·rintro i x σ H4 hx ⟨⟨v,rfl⟩,s4,h4⟩
  let(z,ez,9):=aK hx;have hi:=(op.mp ez).1;show ⟨_,9,_,2,9,9,(by show (0:3)<2;decide),?_⟩;show {_,h4,?_,{_,9},ag.updN s4 hl,?_}
  ·rw[lj,Jn]
   show aw ()
  ·have et:ar[i]?=!(z%2).toNat:=by show (dep.map _)[i]?=_;rw[r6,ez];rfl
   rw[aa,aP et,<- bY,No ()]
 rintro σ H4 ⟨_,s4,h4⟩;rw[lj,JS (by show (dep.map _).length<=_;rw[lj];show oN _)]at h4;have tg:∀p,p<C.length->(ar.getD p 0:3)=Gp.gD dep p%2:=λp hp=>by
  have ea:p<dep.length:=()
  show (((dep.map λz=>(z%2).toNat).getD p 0:4):3)=(dep.getD p (-1))%2;rw[oa,r6,oa,li ea];show (((dep[p]%2).toNat:4):3)=dep[p]%2;show No ()
 have hW:DS ord ar 2 C.length:=⟨hR.ord,ol,by show (dep.map _).length=_;rw[lj];show dt,λp hp=>by have:=tg p hp;omega,()⟩;have a4:=s3 _ _ h2;show ⟨lv,l,ord,ar,2,C.length,9,s4 _ _ a4,h4,hW,by decide,λq5 sk mv bo st H5 ab hS eg es er=>?_⟩;have sH:ag H H5:=(((s1.trans s2).trans s3).trans s4).trans hS.same;let(aA,a0):=hS.ins;show {_,9,q5,aA,_,9,a0,(jL _ _ _ _ _).2.2.1,_,q5,lv,l,sk,mv,bo,ord,ar,st,9,hS,_,9,?_}
 by_cases hd:st.gone=ord.length
 ·show fb hd ?_
  let(rs,em,pm):=hS.mov;show {_,9,q5,_,aA,_,_,9,a0,T.dS,T.dV,nk _ _ _ _ _,λx dx hx cg d2=>{x,dx,mv,rs.map V.ref,9,aa,?_,λu hu ct=>{9,?_}}}
  ·rw[af (ae em hx),af (ae em cg)]
   show em
  have a3:upd H5 dx (.own x) u=8:=by rw[af ct]at hu;show hu
  have cv:u≠dx:=λz=>by rw[z,aa]at a3;cases a3
  have co:H5 u=8:=by rw[af cv]at a3;show a3
  have s6:ag H5 (upd (upd (upd (upd H5 dx (.own x)) x (.ins Z.aH dx [])) u (.lst (rs.map V.ref))) x (.ins Z.aH dx [("moves",.ref u)])):=λc o z=>by
   rw[af (ae z hx),af (ae z co),af (ae z hx),af (ae z cg)];show z
  show k x (.sh u (st.mv.map za)) _ (sH.trans s6) (sH.free hx) {{dx,_,aa,9,9,?_},?_,{st.mv,9,?_}} ?_ (sH.free co)
  ·show cw.g ⟨rs,by rw[af ct,aa],Paired.imp (λr m z=>?_) pm⟩
   show s6 _ _ z
  ·rw[lj];omega
  ·show qU hW.tm hW.o ab (oN _)
  ·show vy an hR 9 hW.tm ab hd
 ·show cT hd ?_
  have d1:st.gone<C.length:=()
  let(fp,cp,kk,ef,hf,ek,ec,d0,dV,hc,eh,ch,qq,wd,ed,b3,ds):=Sh.C3 hW.o hW.tm ab d1;have b5:=hF.sameH (s4.trans hS.same);let(c3,eb):=b5.ins;have cl:Gp.Od C fp cp:=by
   show {dV,hR.lt an _ _ fp cp ch (hW.o.at_ hf) (hW.o.at_ hc),wd,ds,hW.o.lt b3,?_};show hR.lt an qq st.gone wd fp ed b3 ef
  have ee:=a8.conn (vT bb) hf (cd fp cp cl);let(jj,_):=Sh.J.run hW.o hW.tm ab (oN _);show {_,9,q,c3,_,9,eb,(vS _ _ _).2.2,?_};show {_,9,q5,aA,_,9,a0,(jL _ _ _ _ _).2.2.2.1,_,q5,lv,l,sk,mv,bo,ord,ar,st,fp,9,hS,ef,?_};show ⟨_,9,q5,aA,_,9,a0,(jL _ _ _ _ _).2.2.2.2,_,q5,lv,l,sk,mv,bo,ord,ar,st,fp,cp,kk,9,hS,ef,by rw[hW.tl];show hf,by rw[eg];show hW.tm fp hf,ek,ec,d0,?_,?_,?_⟩
  ·intro x hx
   have:=((jj.here _ x).mp hx).1;omega
  ·have cj:(st.st.getD (ar.getD fp 0) []).Nodup:=by
    rw[KZ];show (jl (λk a b h1 h2=>jj.up _ k a b h1 h2)).imp λh=>vu h
   have:=JI cj (l₂:=IZ C.length) λp hp=>J9.mpr ((jj.here _ p).mp hp).1;rw[Jv]at this;omega
  show {H0,q,nA,dA,pA,el,nb,dep,en,C.length,fp,cp,rt,9,b5,vT bb,(),a8,hf,hc,ee,λl6 H6 ring z s6 f6 h6 B ep=>?_};have ci:=s6 _ _ (hS.same _ _ (s4 _ _ a4));show {_,9,lv,ord,C.length,9,ci,hW.o,ol,(),λl7 H7 s7 f7 h7=>?_};have a5:=s7 _ _ h6;have cn:ring.length%2=1:=by
   have h1:=tg fp hf;have h2:=tg cp hc;rw[eh]at h2;omega
  let(bn,b0,d3):=FJ hB bb B cl cn;have rl:ring.length<=C.length:=by
   have:=JI B.nd (l₂:=IZ C.length) λp hp=>J9.mpr (B.lt p hp);rw[Jv]at this;show this
  have c5:dm (aH ring) (!1) 8=aH (ring.drop 1):=by
   rw[show (1:3)=((1:4):3) from 9,cJ];show O7.symm
  have c6:dm (aH ring) 8 (!1)=aH (ring.take 1):=by
   rw[show (1:3)=((1:4):3) from 9,lU];show Py.symm
  show {_,9,_,9,_,9,_,9,l6,_,9,ak.of a5,λu hu=>?_};rw[c5];have s8:=ag.upd (o:=.lst (aH (ring.drop 1))) hu;show {_,9,_,9,l6,_,9,ak.of (s8 _ _ a5),λv hv=>?_};rw[c6];have s9:=ag.upd (o:=.lst (aH (ring.take 1))) hv;show .inr (.inl {u,v,_,_,9,9,s9 _ _ aa,aa,?_,λx hx=>?_})
  ·rw[lj,lj,JM,Jn]
   show Jh (aw ())
  have bT:aH (ring.drop 1)++aH (ring.take 1)=aH (sZ ring):=by
   unfold sZ;show v0.symm
  rw[bT];have eo:=ag.upd (o:=.lst (aH (sZ ring))) hx;have ac:=(s8.trans s9).trans eo;generalize dr:upd (upd (upd H7 u (.lst (aH (ring.drop 1)))) v (.lst (aH (ring.take 1)))) x (.lst (aH (sZ ring)))=H8 at ac ⊢;have cA:H8 x=!.lst (aH (sZ ring)):=by rw[<- dr];show aa
  have a6:=ac _ _ a5;have dp:=ac _ _ h7;show {l6,x,9,{_,ak.of a6},{_,ak.of cA},λp hp=>?_}
  let c2:Nat->St->Hp->Prop:=λi σ H9=>(∃a b,σ=[a,b,!.ref l7])/\ag H8 H9/\H9 p=!.lst (((zx ord ring).take i).map V.int)
  show jW (K:=K) (xs:=aH ring) (ys:=aH (sZ ring))
   c2
   {{_,_,9},ag.upd hp,aa} (λi σ H9 h=>{ak.of (h.2.1 _ _ a6),ak.of (h.2.1 _ _ cA)}) ?_ ?_
  ·rintro i x1 y1 t σ H9 ei ej ⟨⟨a1,b1,rfl⟩,ap,aC⟩ ht
   let(a2,bt,9):=aK ei;let(b2,c4,9):=aK ej;have eq:=B.lt a2 (xA bt);have st:=ag.upd (o:=.tup [.int (a2:3),.int (b2:3)]) ht;have bA:(if (b2:3)<(a2:3) then (b2:3) else (a2:3))=((min a2 b2:4):3):=by split<;>omega
   have bd:(sU ord C.length)[min a2 b2]?=!mx (ord.take (ord.idxOf (min a2 b2))):=by
    unfold sU;rw[r6,LI ()];rfl
   show {t,_,9,b9.of aa,9,_,_,9,_,_,9,9,?_};show ⟨_,9,_,9,_,9,_,_,9,.inl ⟨l7,_,((min a2 b2:4):3),.int (mx (ord.take (ord.idxOf (min a2 b2)))),9,congrArg V.int bA,ak.of (st _ _ (ap _ _ dp)),aq (by rw[r6,bd];rfl),?_⟩⟩;have dd:(zx ord ring)[i]?=!mx (ord.take (ord.idxOf (min a2 b2))):=by
    unfold zx;rw[r6,K2 (z:=(a2,b2)) |>.mpr ⟨bt,c4⟩];rfl
   show {_,st _ _ aC,?_,{_,_,9},ag.updN (ap.trans st) hp,?_}
   ·rw[lj,Jn]
    have:(zx ord ring).length<=ring.length:=by unfold zx;rw[lj,Mi];omega
    show aw ()
   ·rw[aa,aP dd,v0]
    rfl
  rintro σ H9 ⟨_,ap,aC⟩;rw[lj,lj,sK,NI,JS (by unfold zx;rw[lj,Mi];omega),b0,map_map]at aC;have a7:=ap _ _ a6;have bm:H9 p=!.lst (aH bn):=aC;show λy dy hy bc d2=>{y,dy,l6,p,aH ring,aH bn,9,aa,?_,?_,λu2 v2 c0 k1 k2 k3 k4 k5 k6 k7=>{9,?_}}
  ·rw[af (ae a7 hy),af (ae a7 bc)]
   show a7
  ·rw[af (ae bm hy),af (ae bm bc)]
   show bm
  have sF:ag H H9:=((sH.trans s6).trans s7).trans (ac.trans ap);have b4:∀c,upd (upd H9 dy (.own y)) y (.ins Z.aJ dy []) c=8->H c=8:=λc e=>by
   have h1:c≠y:=λz=>by rw[z,aa]at e;cases e
   rw[af h1]at e;have h2:c≠dy:=λz=>by rw[z,aa]at e;cases e
   rw[af h2]at e;show sF.free e
  show k y (.od u2 v2 ring bn) c0 (sF.trans λc o e=>k2 c o ?_ (ae e hy)) (sF.free hy) ⟨dy,k1,k3,k4,k7⟩ d3 {b4 _ k5,b4 _ k6};rw[af (ae e hy),af (ae e bc)];show e
def DU(T:7 3)(a b s:3):Bool:=decide (T.getD s.toNat 0<T.getD (min a b).toNat 0)&&decide (T.getD (min a b).toNat 0<T.getD (max a b).toNat 0)
def HM(T:7 3)(a b s:3):Bool:=decide (max a b<s)&&DU T a b s
def BU(T:7 3)(a b s:3):Bool:=bw T.length (-1) [min a b,max a b,s]&&DU T a b s
def nx(ps:7 3)(k:4):3:=ps.getD ((k+1)%ps.length) 0
def IB(T ps sh:7 3)(k:4):Bool:=HM T (ps.getD k 0) (nx ps k) (sh.getD k 0)
def uK(T ps sh:7 3)(k:4):Bool:=BU T (ps.getD k 0) (nx ps k) (sh.getD k 0)
def HB(ps sh:7 3):Prop:=03<=ps.length/\ps.length%2=1/\sh.length=ps.length/\ps.Nodup
def mD(T ps sh:7 3):Bool:=(decide (03<=ps.length)&&decide (ps.length%2=1)&&decide (sh.length=ps.length)&&decide ps.Nodup)&&(IZ ps.length).all (uK T ps sh)
def eI{T ps sh:7 3}(h:mD T ps sh=6):HB ps sh:=by
 unfold mD at h;simp only[Jf,decide_eq_true_iff]at h;let((((a,b),c),d),_):=h;show ⟨a,b,c,d⟩
def sV{T ps sh:7 3}(h:HB ps sh):mD T ps sh=(IZ ps.length).all (uK T ps sh):=by
 let(a,b,c,d):=h;unfold mD;rw[decide_eq_true a,decide_eq_true b,decide_eq_true c,decide_eq_true d];rfl
def vV{m a b s:3}:bw m (-1) [min a b,max a b,s]=6↔0<=min a b/\min a b<max a b/\max a b<s/\s<m:=by
 simp only[bw,Jf,decide_eq_true_iff,and_true];omega
def yg{T ps sh:7 3}(h:mD T ps sh=6):ub T.length ps=6/\ub T.length sh=6:=by
 have z:=eI h;rw[sV z,Le]at h;have at_:∀k,k<ps.length->0<=ps.getD k 0/\ps.getD k 0<T.length/\0<=sh.getD k 0/\sh.getD k 0<T.length:=λk b=>by
  have:=h k (J9.mpr b);unfold uK BU at this;rw[Jf,vV]at this;generalize ps.getD k 0=a at this ⊢;omega
 have d:∀{l:7 3} {x:3},x∈l->∃k,k<l.length/\l.getD k 0=x:=λ{l x} c=>by
  let(k,b,e):=Ku c;show ⟨k,b,by rw[oa,li b];show e⟩
 unfold ub;simp only[Le,Jf,decide_eq_true_iff];show {λx c=>?_,λx c=>?_}
 ·let(k,b,9):=d c
  show {(at_ k b).1,(at_ k b).2.1}
 ·let(k,b,9):=d c
  show (at_ k (by have:=z.2.2.1;omega)).2.2
def BV{m:3}{l:7 3}(h:ub m l=6){k:4}(a:k<l.length):0<=l.getD k 0/\l.getD k 0<m:=
 ln h (by rw[oa,li a];show Mo a)
def FY{T ps sh:7 3}(z:HB ps sh)(d:ub T.length ps=6)(l:ub T.length sh=6){k:4}(f:k<ps.length):IB T ps sh k=uK T ps sh k:=by
 let(p,z2,q,o):=z;have h:(k+1)%ps.length<ps.length:=mod_lt _ ();have a:=BV d f;have b:=BV d h;have c:=BV l (show k<sh.length by omega);have i:ps.getD k 0≠nx ps k:=by
  unfold nx;intro e;have e:=(List.getD_inj f h o).mp e
  by_cases n:k+1<ps.length
  ·rw[M6 n]at e;omega
  ·rw[show k+1=ps.length by omega,OA]at e;omega
 unfold IB uK HM BU;congr 1;rw[JO,vV,decide_eq_true_iff];have j:0<=nx ps k/\nx ps k<T.length:=b;generalize ps.getD k 0=x at a i ⊢;generalize nx ps k=y at j i ⊢;omega
def jQ{T:7 3}{z:3}(a:0<=z)(b:z<T.length):oh (T.map V.int) z=!.int (T.getD z.toNat 0):=by
 let(n,9):∃n:Nat,z=n:=⟨z.toNat,()⟩;have h:n<T.length:=()
 show aq ?_;rw[Ji,r6,li h,oa,li h];rfl
def En(a b:3):(if b<a then b else a)=min a b:=by split<;>omega
def BW(a b:3):(if b>a then b else a)=max a b:=by split<;>omega
inductive nY  (vs:7 V) (H:Hp) (Q:VK) (u3:XK):Prop
 | mk (a b s:3) (tA:mu) (T:7 3):vs=[.int a,.int b,.int s,.ref tA]->H tA=!.lst (T.map V.int)->0<=min a b->max a b<T.length->0<=s->s<T.length->Q (.bl (HM T a b s)) H->nY  vs H Q u3
def nZ:al ["one", "other", "shower", "train", "earlier", "later"] ["one", "other", "shower", "train"] (ah oX):=by o_head AA
def vW(T:Tx K mg Z):fU P w K mg base bu 1 "is_shown" ["one", "other", "shower", "train"] nY:=by
 o_head (AB T.a7 nZ)
 let(a,b,s,tA,M,9,y,z,B,C,I,e):=h
 o_head (AE nZ (j (o 04 (xg (l 0 (l 1 a)))) (j (o 05 (xf (l 0 (l 1 a)))) (k (n (P (xz 05 2) (Q (xP cL cL (v 03 2) (v 03 04) (v 03 05)))))))))
 show {_,9,_,9,_,_,9,?_};rw[En];show {_,9,_,9,_,_,9,?_};rw[BW];show {_,9,_,9,_,_,9,9,_,9,?_};unfold HM DU at e;show dw (λp=>?_) λp=>?_
 rotate_left
 ·rw[decide_eq_false p,Jw]at e
  show e
 rw[decide_eq_true p,JA]at e;show {_,9,_,9,.inl {tA,_,s,_,9,9,ak.of y,jQ C I,?_}};show {_,9,_,9,.inl {tA,_,min a b,_,9,9,ak.of y,jQ z (),?_}};show {_,_,9,9,_,9,?_};show dw (λr=>?_) λr=>?_
 ·rw[decide_eq_true r,JA]at e
  show {_,9,_,9,.inl {tA,_,max a b,_,9,9,ak.of y,jQ () B,_,_,9,9,e}}
 ·rw[decide_eq_false r,Jw]at e
  show e
def bE(a b:mu):(Em a b).lookup ("places":xD)=!.ref a:=9
def eM(a b:mu):(Em a b).lookup ("shown":xD)=!.ref b:=9
def HC(C:mu)(H:Hp)(p pA a:mu)(ps sh:7 3):Prop:=∃b,H p=!.ins C b (Em pA a)/\H pA=!.lst (ps.map V.int)/\H a=!.lst (sh.map V.int)
def HC.same{C:mu}{H e:Hp}{p pA i:mu}{ps sh:7 3}(h:HC C H p pA i ps sh)(s:ag H e):HC C e p pA i ps sh:=let ⟨j,a,b,c⟩:=h;{j,s _ _ a,s _ _ b,s _ _ c}
inductive mE(C:mu)(vs:7 V)(H:Hp)(Q:VK)(u3:XK):Prop
 | mk (p pA sA tA:mu) (ps sh T:7 3):vs=[.ref p,.ref tA]->HC C H p pA sA ps sh->H tA=!.lst (T.map V.int)->ps.length<200->sh.length<200->(∀H',ag H H'->Q (.bl (mD T ps sh)) H')->mE C vs H Q u3
def mF:al ["self", "train", "many", "turned"] ["self", "train"] (ah iW):=by o_head AA
def m_Odd_shows(T:Tx K mg Z):cM P w K mg base bu 07 Z.aJ "shows" ["self", "train"] (mE Z.aJ):=by
 o_head (AC T.cT T.eE mF)
 let(p,pA,sA,tA,ps,sh,tr,9,(I,M,h2,h3),hT,bn,bo,kQ):=h
 o_head (AE mF (j (o 2 (t (l (m 0) a))) (j (q (C (x (xH 2 c) (x (xF (xu 2 c) c) (G (xG (t (l (m 0) a)) 2))))) (k (n e)) d) (j (q (C (x (w (s (r (ii T) (l (m 0) (l 1 a))))) (x (w (s (r (ii T) (l (m 0) (l 1 a))))) (G (s (r (iC T) (l (m 0) a))))))) (k (n e)) d) (j (o 03 (R (xc (m 0) (S c) i) (xc (m 0) i (S c)))) (k (n (xh (l (V iW ["self", "train", "many", "turned"] [none,none,none,some 1] ["one", "other", "shower", "train"] (xY (l (m 0) (l 03 (l (m 0) a)))) (N 03 (H (W 0 ["one", "other", "shower", "train"]) (H (W 1 ["one", "other", "shower", "train"]) (H (W 2 ["one", "other", "shower", "train"]) h)))) (r (vW T) (l 0 (l 1 (l 2 (l 03 a)))))) a)))))))))
 have kF:∀H',ag H H'->(mD tr ps sh=6->False)->Q (.bl 5) H':=λH' s' z=>by
  have:=kQ H' s';rw[MB.mpr z]at this;show this
 have rH:=ag.refl H;show {_,9,p,_,I,_,_,9,M,T.cT,T.cV,bE _ _,_,_,9,.inl {_,ak.of h2,9},?_};rw[lj];show {_,9,_,_,9,9,_,9,?_};show dw (λz=>kF H rH λo=>by have:=(eI o).1;omega) λz3=>?_;show ⟨_,9,_,2,9,9,(by show (0:3)<2;decide),.inl {9,_,9,?_}⟩;show dw (λz=>kF H rH λo=>by have:=(eI o).2.1;have:=V.int.inj z;omega) λz2=>?_;show {_,9,p,_,I,_,_,9,M,T.cT,T.cW,eM _ _,_,_,9,.inl {_,ak.of h3,9},_,9,.inl {9,_,9,?_}};rw[lj];show jc (λz=>kF H rH λo=>z (by rw[(eI o).2.2.1])) λzl=>?_
 have zl:sh.length=ps.length:=by have:=V.int.inj zl;omega
 show {_,9,p,_,I,_,_,9,M,T.cT,T.cV,bE _ _,_,9,pA,tA,ps,_,9,h2,(),hT,λH1 s1=>{_,9,?_}};rw[lj];cases B:ub tr.length ps with
 | false=>show bC (kF H1 s1 λo=>by rw[(yg o).1]at B;cases B)
 | true=>
 show aO ?_;show {_,9,p,_,I,_,_,9,s1 _ _ M,T.cT,T.cW,eM _ _,_,9,sA,tA,sh,_,9,s1 _ _ h3,(),s1 _ _ hT,λH2 s2=>{_,9,?_}};rw[lj];have ap:=s1.trans s2;cases ac:ub tr.length sh with
 | false=>show bC (kF H2 ap λo=>by rw[(yg o).2]at ac;cases ac)
 | true=>
 show aO ?_;show {_,9,p,_,I,_,_,9,ap _ _ M,T.cT,T.cV,bE _ _,pA,ps,9,ak.of (ap _ _ h2),(),λH3 s3=>{_,9,?_}};have aA:=ap.trans s3;show jc (λz=>kF H3 aA λo=>z (eI o).2.2.2) λbb=>?_;have sz:HB ps sh:=⟨(),by have:¬ ps.length%2=0:=λz=>z2 (by rw[show ((ps.length:3)%2)=0 by omega]);omega,zl,bb⟩;show {_,9,p,_,I,_,_,9,aA _ _ M,T.cT,T.cV,bE _ _,_,9,pA,_,9,ak.of (aA _ _ h2),λu hu=>?_};rw[show dm (ps.map V.int) (!1) 8=(ps.drop 1).map V.int from by rw[show (1:3)=((1:4):3) from 9,cJ];show O7.symm]
 have a4:=aA.trans (ag.upd (o:=.lst ((ps.drop 1).map V.int)) hu);show {_,9,p,_,I,_,_,9,a4 _ _ M,T.cT,T.cV,bE _ _,_,9,pA,_,9,ak.of (a4 _ _ h2),λv hv=>?_};rw[show dm (ps.map V.int) 8 (!1)=(ps.take 1).map V.int from by rw[show (1:3)=((1:4):3) from 9,lU];show Py.symm];have s5:=ag.upd (o:=.lst ((ps.take 1).map V.int)) hv;show .inr (.inl {u,v,_,_,9,9,s5 _ _ aa,aa,?_,λx hx=>?_})
 ·rw[lj,lj,JM,Jn]
  show Jh (aw ())
 rw[show (ps.drop 1).map V.int++(ps.take 1).map V.int=(sZ ps).map V.int from v0.symm];have y:=(a4.trans s5).trans (ag.upd (o:=.lst ((sZ ps).map V.int)) hx);generalize a8:upd (upd (upd H3 u (.lst ((ps.drop 1).map V.int))) v (.lst ((ps.take 1).map V.int))) x (.lst ((sZ ps).map V.int))=H4 at y ⊢;have a6:H4 x=!.lst ((sZ ps).map V.int):=by rw[<- a8];show aa
 show {_,9,p,_,I,_,_,9,y _ _ M,T.cT,T.cV,bE _ _,_,9,_,9,p,_,I,_,_,9,y _ _ M,T.cT,T.cW,eM _ _,pA,x,sA,9,{_,ak.of (y _ _ h2)},{_,ak.of a6},{_,ak.of (y _ _ h3)},λl hl=>?_}
 let a7:Nat->St->Hp->Prop:=λi σ H9=>(∃a b c,σ=[a,b,c,!.ref tA])/\ag H4 H9/\H9 l=!.lst (((IZ i).map (uK tr ps sh)).map V.bl)/\i<=ps.length
 show vE (K:=K) (xs:=ps.map V.int) (ys:=(sZ ps).map V.int) (zs:=sh.map V.int)
  a7
  {{_,_,_,9},ag.upd hl,aa,Jd _} (by rw[lj,lj,sK]) (by rw[lj,lj,zl]) (λi σ H9 h=>{ak.of (h.2.1 _ _ (y _ _ h2)),ak.of (h.2.1 _ _ a6),ak.of (h.2.1 _ _ (y _ _ h3))}) ?_ ?_
 ·rintro i x1 y1 z1 t σ H9 bc bd bm ⟨⟨a1,b1,c1,rfl⟩,an,ab,hi⟩ ht
  let(a2,aC,9):=aK bc;let(b2,a0,9):=aK bd;let(c2,a5,9):=aK bm;have a3:=(op.mp aC).1;have st:=ag.upd (o:=.tup [.int a2,.int b2,.int c2]) ht;show {t,_,9,b9.of aa,9,_,_,9,_,_,9,_,_,9,9,?_};have e:=FY sz B ac a3;rw[xT a3]at a0;have q1:=ln B (xA aC);have q2:=ln B (xA a0);have q3:=ln ac (xA a5);unfold IB nx at e;rw[oa,aC,oa,a0,oa,a5]at e;show {_,9,_,9,_,9,_,9,a2,b2,c2,tA,tr,9,st _ _ (an _ _ (y _ _ hT)),(),(),(),(),?_}
  show {_,st _ _ ab,?_,{_,_,_,9},ag.updN (an.trans st) hl,?_,a3}
  ·rw[lj,lj,Jv]
   show aw ()
  ·rw[aa,NG,v0,v0]
   show _=!(HO.lst (_++[V.bl (uK tr ps sh i)]));rw[<- e];rfl
 rintro σ H9 ⟨_,an,ab,_⟩;rw[lj]at ab;show {l,_,9,ak.of ab,?_};have:=kQ H9 (y.trans an);rw[sV sz]at this;rw[all_map];show this
inductive BX  (vs:7 V) (H:Hp) (Q:VK) (u3:XK):Prop
 | mk (a b s:3) (tA:mu) (T:7 3):vs=[.ref tA,.int a,.int b,.int s]->H tA=!.lst (T.map V.int)->(∀H',ag H H'->Q (.bl (BU T a b s)) H')->BX  vs H Q u3
def dW:al ["_law_train", "_law_one", "_law_other", "_law_shown", "_law_first", "_law_second"] ["_law_train", "_law_one", "_law_other", "_law_shown"] (ah i4):=by o_head AA
def p6(T:Tx K mg Z):fU P w K mg base bu 2 "_law_at_odds" ["_law_train", "_law_one", "_law_other", "_law_shown"] BX:=by
 o_head (AB T.bO dW)
 let(a,b,s,tA,tr,9,I,p):=h;refine' {_,?hterm,?_}
 case hterm=>
  have c:=dW;refine' ai ?q1 ?q2
  case q1=>
   refine' mL (i:=04) (j:=05) 9 dW.nd 9 9 (by decide) 9 9 ?q3 (by kernel_rfl) (hs:=by kernel_rfl)
   case q3=>o_head (l (xg (l 1 (l 2 a))) (l (xf (l 1 (l 2 a))) a))
  case q2=>o_head (j (q (w (s (r (fW T) (l (z (l 04 (l 05 (l 03 a)))) (l (t (l 0 a)) a))))) (k (n e)) d) (k (n (xP cL cL (v 0 03) (v 0 04) (v 0 05)))))
 show {_,9,_,9,_,_,9,?_};rw[En];show {_,9,_,9,_,_,9,?_};rw[BW];show {_,_,9,?_};show ⟨_,9,_,9,_,9,(by show 03<=sizeLine;decide),λl M=>?_⟩;have st:=ag.upd (o:=.lst [.int (min a b),.int (max a b),.int s]) M;have y:=st _ _ I;have p:=p _ st;show {_,9,_,_,9,.inl {_,ak.of y,9},l,[min a b,max a b,s],_,9,ak.of aa,_,9,?_};rw[lj];unfold BU DU at p;cases B:bw tr.length (-1) [min a b,max a b,s] with
 | false=>
  rw[B,Jw]at p;show bC p
 | true=>
 rw[B,JA]at p;show aO ?_;let(r1,r2,r3,r4):=vV.mp B;show {_,9,_,9,.inl {tA,_,s,_,9,9,ak.of y,jQ () r4,?_}};show {_,9,_,9,.inl {tA,_,min a b,_,9,9,ak.of y,jQ r1 (),?_}};show {_,_,9,9,_,9,?_};show dw (λC=>?_) λC=>?_
 ·rw[decide_eq_true C,JA]at p
  show {_,9,_,9,.inl {tA,_,max a b,_,9,9,ak.of y,jQ () (),_,_,9,9,p}}
 ·rw[decide_eq_false C,Jw]at p
  show p
inductive yh  (vs:7 V) (H:Hp) (Q:VK) (u3:XK):Prop
 | mk (tA pA sA:mu) (ps sh T:7 3):vs=[.ref tA,.ref pA,.ref sA]->H tA=!.lst (T.map V.int)->H pA=!.lst (ps.map V.int)->H sA=!.lst (sh.map V.int)->ps.length<200->(∀H',ag H H'->Q (.bl (mD T ps sh)) H')->yh  vs H Q u3
def n0:al ["_law_train", "_law_places", "_law_shown", "_law_many"] ["_law_train", "_law_places", "_law_shown"] (ah kZ):=by o_head AA
def p7(T:Tx K mg Z):fU P w K mg base bu 03 "_law_odd" ["_law_train", "_law_places", "_law_shown"] yh:=by
 o_head (AB T.bP n0)
 let(tA,pA,sA,ps,sh,tr,9,hT,h2,h3,bm,kQ):=h;refine' {_,?hterm,?_}
 case hterm=>
  have c:=n0;refine' ai ?q1 ?q2
  case q1=>o_head (X 03 (t (l 1 a)))
  case' q2=>refine' ai ?q5 ?q6
  case q5=>
   refine' cb ?q7 ?q8 a9
   case q7=>
    refine' PW.pt ?q9
    case' q9=>refine' oZ ?a0 ?a1
    case a0=>o_head (xH 03 c)
    case' a1=>refine' oZ ?a2 ?a3
    case a2=>o_head (xF (xu 03 c) c)
    case' a3=>refine' oZ ?a4 ?a5
    case a4=>o_head (xG (t (l 2 a)) 03)
    case' a5=>refine' uW ?a6
    case' a6=>refine' cu (vj (K:=K) (by rfl) (by show hr.units)) ?a7 (pv 03) (bH _)
    case' a7=>refine' bP zw (by rfl) T.aH wO ?a8
    case' a8=>refine' aD ?bb cz
    case' bb=>refine' eK (zu (by rfl)) (by rfl) T.aO Hu ?bc
    case bc=>o_head (l 1 a)
   case q8=>o_head (k (n e))
  case q6=>o_head (k (n (xh (l (V kZ ["_law_train", "_law_places", "_law_shown", "_law_many"] [none,some 0,some 1,some 03,some 2] ["_law_k", "_law_train", "_law_places", "_law_many", "_law_shown"] (J (l 03 a)) (W 0 ["_law_k", "_law_train", "_law_places", "_law_many", "_law_shown"]) (r (p6 T) (l 1 (l (v 2 0) (l (v 2 (xu (R 0 c) 03)) (l (v 04 0) a)))))) a))))
 have kF:∀M,ag H M->(mD tr ps sh=6->False)->Q (.bl 5) M:=λM s' z=>by
  have:=kQ M s';rw[MB.mpr z]at this;show this
 have rH:=ag.refl H;show {_,9,_,_,9,.inl {_,ak.of h2,9},?_};rw[lj];show {_,9,_,_,9,9,_,9,?_};show dw (λz=>kF H rH λo=>by have:=(eI o).1;omega) λz3=>?_;show ⟨_,9,_,2,9,9,(by show (0:3)<2;decide),.inl {9,_,9,?_}⟩;show dw (λz=>kF H rH λo=>by have:=(eI o).2.1;have:=V.int.inj z;omega) λz2=>?_;show {_,9,_,_,9,.inl {_,ak.of h3,9},_,9,.inl {9,_,9,?_}};rw[lj];show jc (λz=>kF H rH λo=>z (by rw[(eI o).2.2.1])) λzl=>?_;have zl:sh.length=ps.length:=by have:=V.int.inj zl;omega
 have j:=BA ps;show {_,9,pA,ps,9,h2,(),λl hl=>?_};have B:=ag.upd (o:=.set (λk=>(lr ps).any (·==k)) (lr ps).length) hl;generalize an:upd H l (.set (λk=>(lr ps).any (·==k)) (lr ps).length)=H1 at B ⊢;have aA:H1 l=!(.set (λk=>(lr ps).any (·==k)) (lr ps).length):=by rw[<- an];show aa
 show ⟨l,_,_,9,aA,by have:=j.1;omega,_,9,.inl {9,_,9,?_}⟩;show jc (λz=>kF _ B λo=>z (by rw[j.2.mpr (eI o).2.2.2])) λzn=>?_;have aC:ps.Nodup:=j.2.mp (by have:=V.int.inj zn;omega);have sz:HB ps sh:=⟨(),by have:¬ ps.length%2=0:=λz=>z2 (by rw[show ((ps.length:3)%2)=0 by omega]);omega,zl,aC⟩;have bd:=sz.1;show {_,9,_,9,(),(),λp hp=>?_};rw[Ji];have I:=B _ _ h2;have ac:=B _ _ h3;have ap:=B _ _ hT
 let ab:Nat->St->Hp->Prop:=λi σ C=>(∃v,σ=[v,!.ref tA,!.ref pA,!(.int (ps.length:3)),!.ref sA])/\ag H1 C/\C p=!.lst (((IZ i).map (uK tr ps sh)).map V.bl)
 show dn (lo:=0) (n:=ps.length) ab
  {{_,9},ag.upd hp,aa} ?_ ?_
 ·rintro i σ C hi ⟨⟨v,rfl⟩,y,h4⟩
  rw[show (0:3)+(i:3)=(i:3) from LP _];have hm:(i+1)%ps.length<ps.length:=mod_lt _ ();have og:∀{l:7 3} {k:4},k<l.length->oh (l.map V.int) (k:3)=!.int (l.getD k 0):=λ{l k} hk=>jQ (T:=l) (z:=(k:3)) () ();show {_,9,_,9,_,9,.inl {pA,_,(i:3),_,9,9,ak.of (y _ _ I),og hi,?_}};show ⟨_,9,_,9,.inl ⟨_,1,9,9,_,9,_,_,9,9,(by show (0:3)<(ps.length:3);omega),.inl ⟨pA,_,(((i+1)%ps.length:4):3),_,9,(by show V.int (((i:3)+1)%(ps.length:3))=_;congr 1),ak.of (y _ _ I),og hm,?_⟩⟩⟩;show {_,9,_,9,.inl {sA,_,(i:3),_,9,9,ak.of (y _ _ ac),og (),?_}}
  show {_,_,_,tA,tr,9,y _ _ ap,λH3 s3=>?_};show {_,s3 _ _ h4,?_,{_,9},ag.updN (y.trans s3) hp,?_}
  ·rw[lj,lj,Jv]
   show aw ()
  ·rw[aa,NG,v0,v0]
   rfl
 rintro σ C ⟨_,y,h4⟩;show {p,_,9,ak.of h4,?_};have:=kQ C (B.trans y);rw[sV sz]at this;rw[all_map];show this
def rf.short{T:7 3}{ring a:7 4}(h:rf T ring a):ring.length<=T.length:=by
 have:=JI h.nd (l₂:=IZ T.length) λx n=>by
  let(k,i,e):=Ku n;let(q,b,s,_):=h.at_ k i;rw[oa,li i]at b;have:ring[k]<=max ring[k] (ring.getD ((k+1)%ring.length) 0):=Nat.le_max_left _ _;have j:max ring[k] (ring.getD ((k+1)%ring.length) 0)<a.getD k 0:=b;rw[J9];omega
 rw[Jv]at this;show this
def BY{H:Hp}{a:mu}{l:7 4}{n:4}(e:H a=!.lst (aH l))(h:l.length<=n):IL n H (.ref a):=⟨a,l.map λ(p:Nat)=>(p:3),9,by rw[e,qT],by rw[lj];show h⟩
def i3{σ:St}{d:Hp}{a b c:3}:Gd (IL 63) σ d (Af (eZ (tC (.int a)) (eZ (tC (.int b)) (eZ (tC (.int c)) n9)))):=bz (by decide) (mt (au (λ_ r=>r) BO (au (λ_ r=>r) BO (au (λ_ r=>r) BO b8))) (by decide))
def BZ(T:Tx K mg Z){H:Hp}{p:mu}{h:uI}{f:7 3}(o:h.At Z H p)(a:h.ok f)(v:f.length<64):∃(C:mu) (j:Bool),(∀b,ag H b->kd K b (.ref p) (.ref C))/\PL K (.ref C) (.ref Z.aJ)=!j /\
  (j=6->∃c pA e,H p=!.ins Z.aJ c (Em pA e)/\IL 63 H (.ref pA)/\0<f.length/\IL 63 H (.ref e)/\∃(r:4) (l:7 4),H pA=!(.lst (aH (r::l)))):=by
 cases h with
 | sh x gs=>
  let((c,fs,d,_),_):=o;show {Z.aH,5,λb s=>T.cJ.ty T.cH (s _ _ d),T.e7,λz=>by cases z}
 | od pA e ring i=>
  have a:rf f ring i:=a;let(c,d,n,q,_):=o;have hs:=a.short;have u:=a.len;have t:=a.three;show {Z.aJ,6,λb s=>T.cU.ty T.cT (s _ _ d),ce,λ_=>{c,pA,e,d,BY n (),(),BY q (),?_}};cases ring with
  | nil=>cases t
  | cons r l=>show ⟨r,l,n⟩
inductive B0(K:PySem.W.Frag)(Z:Adr)(vs:7 V)(H:Hp)(Q:VK)(u3:XK):Prop
 | mk (tA a:mu) (T ns:7 3):vs=[.ref tA,.ref a]->H tA=!.lst (T.map V.int)->T.Nodup->T.length<64->ak K H a (ns.map V.int)->ns.length<=63->ow Z H->(∀H',ag H H'->Q (.bl 6) H')->B0 K Z vs H Q u3
def br:al ["_law_train", "_law_script", "_law_found", "_law_places", "_law_shown", "_law_some", "_law_others", "_law_handed", "_law_answer"] ["_law_train", "_law_script"] (ah dZ):=by o_head AA
def d9(T:Tx K mg Z):fU P w K mg base bu 08 "_law_odds_by_hand" ["_law_train", "_law_script"] (B0 K Z):=by
 o_head (AB T.bX br)
 let(tA,a,tr,ns,9,hT,bt,hz,hN,a4,a2,kQ):=h;refine' {_,?hterm,?_}
 case hterm=>
  have c:=br;refine' ai ?q1 ?q2
  case q1=>o_head (o 2 (r (jP T) (l 0 a)))
  case' q2=>refine' ai ?q5 ?q6
  case q5=>
   refine' mL (i:=03) (j:=04) 9 br.nd 9 9 (by decide) 9 9 ?q7 (by kernel_rfl) (hs:=by kernel_rfl)
   case q7=>o_head (l (z (l c (l c (l c a)))) (l (z (l c (l c (l c a)))) a))
  case' q6=>refine' ai ?b0 ?b1
  case b0=>
   refine' cb ?b2 ?b3 a9
   case b2=>o_head (s (u (l 2 (l (E T.cQ) a))))
   case' b3=>refine' ax ?b4
   case' b4=>refine' mL (i:=03) (j:=04) 9 br.nd 9 9 (by decide) 9 9 ?b5 (by kernel_rfl) (hs:=by kernel_rfl)
   case b5=>o_head (l (m 2) (l (m 2) a))
  case' b1=>refine' ai ?ca ?cd
  case ca=>
   refine' gS HP 9 ?cg ?ch ?ci
   case cg=>
    refine' i9 (K:=K) (by rfl) ?cj
    case' cj=>refine' rN ?cl
    case' cl=>refine' aD ?cn ?co
    case cn=>o_head (A (l 03 (l 04 a)))
    case' co=>refine' aD ?cp ?ct
    case cp=>o_head (A (l (R (xc 03 (S c) i) (xc 03 i (S c))) (l (R (xc 04 (S c) i) (xc 04 i (S c))) a)))
    case' ct=>refine' aD ?cv ?cA
    case cv=>o_head (A (l (xc 03 (S c) i) (l (xc 04 (S c) i) a)))
    case' cA=>refine' aD ?c0 ?c1
    case c0=>o_head (A (l (r (fD T) (l 03 (l 1 a))) (l (r (fD T) (l 04 (l 1 a))) a)))
    case' c1=>refine' aD ?c2 ?c3
    case c2=>o_head (A (l (R (xc 03 (S c) i) (xc 03 i (S c))) (l 04 a)))
    case' c3=>refine' aD ?c4 ?c5
    case c4=>o_head (A (l (R 03 (xc 03 i (S c))) (l (R 04 (xc 04 i (S c))) a)))
    case' c5=>refine' aD ?c6 cz
    case' c6=>refine' o8 ?dd
    case' dd=>refine' aD ?dp ?dr
    case dp=>
     refine' pB (K:=K) (by rfl) (pv 03) lO ?ds
     case ds=>o_head (S (y c))
    case' dr=>refine' aD ?dt cz
    case' dt=>refine' kG (lR (K:=K) (by rfl)) ?dy ?a5
    case dy=>
     refine' pB (K:=K) (by rfl) (pv 04) ?a6 ?a7
     case a6=>o_head (S (y c))
     case a7=>o_head (S (y c))
    case a5=>o_head (xc 04 (S (y c)) i)
   case ch=>o_head (N 2 (H (U 05) (H (U 06) h)))
   case ci=>o_head (j (o 07 (z (l (xl (l 05 a)) (l (xl (l 06 a)) a)))) (j (o 08 (O (rJ T) (l (v 07 c) (l (v 07 c) a)))) (j (p (D (v 07 c) (l c a))) (j (p (D (v 07 c) (l c a))) (j (q (C (x (xG (m 08) 05) (G (xG (m 08) 06)))) (k (n e)) d) (k (q (w (s (r (aV T) (l (L 08 (m_Odd_shows T) (l 0 a)) (l (r (p7 T) (l 0 (l 05 (l 06 a)))) a))))) (k (n e)) d)))))))
  case cd=>o_head (k (n e))
 show {_,9,tA,tr,9,hT,bt,(),a2,λp an H1 s1 dA ha bA _=>?_};show i3 (σ:=[]) H1 _ (ag.refl _) λx H2 s2 hx=>i3 (σ:=[]) H2 _ (ag.refl _) λy H3 s3 hy=>{x,y,9,?_};have hx:=hx.same s3;have I:=s2.trans s3;let(C,bo,ty,bT,is):=BZ T ha bA hz;dsimp only[L2.bN.sq];show FV (λv w=>[!.ref tA,!.ref a,!.ref p,!v,!w,8,8,8,8]) (λv w=>IL 63 H3 v/\IL 63 H3 w) 9 (λ_ _=>rfl) ⟨hx,hy⟩ (λR k=>{_,9,_,_,_,_,_,9,9,wF,ty _ I,bT,_,9,k bo λhb S kS=>?_}) ?_
 ·let(dx,pA,sA,g1,g2,_,g3,_):=is hb
  show {_,9,p,_,dx,_,_,9,I _ _ g1,T.cT,T.cV,bE _ _,_,9,p,_,dx,_,_,9,I _ _ g1,T.cT,T.cW,eM _ _,kS _ _ {g2.same I,g3.same I}}
 rintro v w ⟨hv,hw⟩;have s4:=I;generalize H3=H4 at s4 hv hw ⊢;have a8:=s1.trans s4
 let bc:St:=[!.ref tA,!.ref a,!.ref p,!v,!w,8,8,8,8]
 have V3:Gd (IL 63) bc H4 (gi 03):=bI 9 hv;have V4:Gd (IL 63) bc H4 (gi 04):=bI 9 hw;have R3:=ni (fL V3 (pT (j:=1)) dF) (fL V3 dF (pT (j:=1))) (by decide);have R4:=ni (fL V4 (pT (j:=1)) dF) (fL V4 dF (pT (j:=1))) (by decide);have le:63<=63+63:=by decide
 have sq:=a8.seq hN;show ij (R:=PR (63+63)) PR.same (au PR.same (cG (bz le V3) (bz le V4)) (au PR.same (cG R3 R4) (au PR.same (cG (bz le (fL V3 pT dF)) (bz le (fL V4 pT dF)))
  (au PR.same (cG (sP V3 9 sq a4 (by decide)) (sP V4 9 sq a4 (by decide))) (au PR.same (cG R3 (bz le V4))
  (au PR.same (cG (ni V3 (fL V3 dF pT) (by decide)) (ni V4 (fL V4 dF pT) (by decide))) (au PR.same (cG (bz le (vP V3 dF)) (ni (vP V4 BK) (fL V4 BK dF) (by decide))) b8))))))) (by decide) H4 _ (ag.refl _) λx H5 s5 hx=>?_
 let(fA,xs,9,hf,hk,hX):=hx;have bb:=a8.trans s5
 let bd:Nat->St->Hp->Prop:=λi σ H6=>(∃v5 v6 v7 v8,σ=[!.ref tA,!.ref a,!.ref p,!v,!w,v5,v6,v7,v8])/\ag H5 H6
 show ⟨fA,9,{_,ak.of hf},aT (K:=K) (a:=fA) (xs:=xs) bd
  {{_,_,_,_,9},ag.refl _} (λi σ H6 _ h=>ak.of (h.2 _ _ hf)) ?_ λσ H6 h=>kQ _ (bb.trans h.2)⟩
 rintro i x σ H6 hx ⟨⟨v5,v6,v7,v8,rfl⟩,s6⟩;let(t,b,c,9,ht,(_,ps,e,hb,nb),(_,qs,e',hc,nc)):=(hX x (xA hx)).same s6;cases e;cases e';show {t,_,9,b9.of ht,9,_,_,9,_,_,9,9,?_};have T6:=(bb.trans s6) _ _ hT;show {_,9,b,_,9,.inl (ak.of hb),λu hu=>?_};have u1:=ag.upd (o:=.lst (ps.map V.int)) hu;have eu:upd H6 u (.lst (ps.map V.int)) u=!.lst (ps.map V.int):=aa;generalize upd H6 u (.lst (ps.map V.int))=J1 at u1 eu ⊢;show {_,9,c,_,9,.inl (ak.of (u1 _ _ hc)),λu' ac=>?_};have u2:=ag.upd (o:=.lst (qs.map V.int)) ac;have aA:upd J1 u' (.lst (qs.map V.int)) u'=!.lst (qs.map V.int):=aa
 generalize upd J1 u' (.lst (qs.map V.int))=J2 at u2 aA ⊢;show ⟨(by show 2<=sizeLine;decide),λhA a3=>?_⟩;have u3:=ag.upd (o:=.lst [.ref u,.ref u']) a3;have eh:upd J2 hA (.lst [.ref u,.ref u']) hA=!.lst [.ref u,.ref u']:=aa;generalize upd J2 hA (.lst [.ref u,.ref u'])=J3 at u3 eh ⊢;have M:=u3 _ _ (u2 _ _ eu);have B:=u3 _ _ aA;show {_,9,.inl {hA,_,0,_,9,9,ak.of eh,9,_,9,.inl {hA,_,1,_,9,9,ak.of eh,9,λq dq hq bn _=>?_}}};have to:∀{c:mu} {o:HO},J3 c=!o->upd (upd J3 dq (.own q)) q (.ins Z.aJ dq []) c=!o:=λ{c o} e=>by rw[af (ae e hq),af (ae e bn)];show e
 show {q,dq,u,u',_,_,9,aa,to M,to B,λl1 l2 J4 o kept e1 e2 f1 f2 _=>{9,?_}};have u4:ag J3 J4:=λc o e=>kept c o (to e) (ae e hq);have ap:=u4 _ _ eh;have aC:=u4 _ _ M;have a0:=u4 _ _ B;have n1:u≠u':=ae eu ac;have n2:hA≠u:=(ae (u2 _ _ eu) a3).symm;have zl:∀{l:7 3},l.length<=63+63->(l.map V.int).length<sizeLine:=λh=>by rw[lj];show am ()
 show {_,9,.inl {hA,_,0,_,9,9,ak.of ap,9,.inl {9,_,ak.of aC},u,_,_,9,9,aC,zl nb,?_}};have bm:upd J4 u (.lst (ps.map V.int++[.int 0])) hA=!.lst [.ref u,.ref u']:=(af n2).trans ap;have a1:upd J4 u (.lst (ps.map V.int++[.int 0])) u'=!.lst (qs.map V.int):=(af n1.symm).trans a0;show {_,9,.inl {hA,_,1,_,9,9,ak.of bm,9,.inl {9,_,ak.of a1},u',_,_,9,9,a1,zl nc,?_}};have S6:∀{X Y:HO},ag H6 (upd (upd J4 u X) u' Y):=ag.updN (ag.updN (((u1.trans u2).trans u3).trans u4) hu) (u1.free ac);have get:∀{c:mu} {o X Y:HO},J4 c=!o->c≠u->c≠u'->upd (upd J4 u X) u' Y c=!o:=λe a b=>by rw[af b,af a];show e
 have O:=get (X:=.lst (ps.map V.int++[.int 0])) (Y:=.lst (qs.map V.int++[.int 0])) o (ae M hq).symm (ae B hq).symm;have L1:=get (X:=.lst (ps.map V.int++[.int 0])) (Y:=.lst (qs.map V.int++[.int 0])) e1 (ae (to M) f1).symm (ae (to B) f1).symm;have ab:=get (X:=.lst (ps.map V.int++[.int 0])) (Y:=.lst (qs.map V.int++[.int 0])) e2 (ae (to M) f2).symm (ae (to B) f2).symm;have S6:=S6 (X:=.lst (ps.map V.int++[.int 0])) (Y:=.lst (qs.map V.int++[.int 0]));clear get;generalize upd (upd J4 u (.lst (ps.map V.int++[.int 0]))) u' (.lst (qs.map V.int++[.int 0]))=J5 at S6 O L1 ab ⊢;show {_,9,q,_,dq,_,_,9,O,T.cT,T.cV,bE _ _,_,9,.inr {_,_,.ints (ak.of L1),.ints (ak.of (S6 _ _ hb)),aG _ _,aG _ _,_,9,hV 9 ?_}}
 show {_,9,q,_,dq,_,_,9,O,T.cT,T.cW,eM _ _,_,9,.inr {_,_,.ints (ak.of ab),.ints (ak.of (S6 _ _ hc)),aG _ _,aG _ _,_,9,hV 9 ?_}};show {_,9,q,dq,_,9,O,9,_,9,q,l1,l2,tA,ps,qs,tr,9,⟨dq,O,L1,ab⟩,S6 _ _ T6,(),(),λJ6 s7=>?_};have S7:=S6.trans s7;show {_,9,_,9,_,9,tA,b,c,ps,qs,tr,9,S7 _ _ T6,S7 _ _ hb,S7 _ _ hc,(),λJ7 s8=>{_,9,{_,9,aO {{_,_,_,_,9},(s6.trans S7).trans s8}}}}
inductive B1(K:PySem.W.Frag)(Z:Adr)(vs:7 V)(H:Hp)(Q:VK)(u3:XK):Prop
 | mk (tA a:mu) (T ns:7 3):vs=[.ref tA,.ref a]->H tA=!.lst (T.map V.int)->T.Nodup->T.length<64->ak K H a (ns.map V.int)->ns.length<=63->ow Z H->(∀H',ag H H'->Q (.bl 6) H')->B1 K Z vs H Q u3
def bf:al ["_law_train", "_law_script", "_law_found", "_law_many", "_law_places", "_law_shown", "_law_below", "_law_some", "_law_drawn", "_law_ring", "_law_others", "_law_wagons"] ["_law_train", "_law_script"] (ah aL):=by o_head AA
def cV(T:Tx K mg Z):fU P w K mg base bu 08 "_law_far_odds_right" ["_law_train", "_law_script"] (B1 K Z):=by
 o_head (AB T.bY bf)
 let(tA,a,tr,ns,9,hT,bt,hz,hN,bA,aC,kQ):=h;refine' {_,?hterm,?_}
 case hterm=>
  have c:=bf;refine' ai ?q1 ?q2
  case q1=>
   refine' rM ?q3 ?q4 (hs:=by kernel_rfl) (hw:=by kernel_rfl)
   case q3=>o_head (A (l (r (jP T) (l 0 a)) (l (t (l 0 a)) a)))
   case' q4=>refine' rY (K:=K) (n:=2) (by rfl) 9 ?b5
   case' b5=>refine' i5 ?ca ?cd
   case ca=>o_head (U 2)
   case' cd=>refine' i5 ?cg wb
   case cg=>show jT (i:=03) bf.nd (by rfl) (by show QI 9)
  case' q2=>refine' ai ?ch ?ci
  case ch=>o_head (Z (xe (w (s (u (l 2 (l (E T.cQ) a))))) (A (l (z (l c (l c (l c a)))) (l (z (l c (l c (l c a)))) a))) (A (l (m 2) (l (m 2) a)))) (N 2 (H (U 04) (H (U 05) h))))
  case' ci=>refine' ai ?cj ?cl
  case cj=>o_head (o 06 (R (z (l (xt (v 04 c) 03) a)) (xc 04 (S c) i)))
  case' cl=>refine' ai ?cn ?co
  case cn=>o_head (o 07 (z (l (A (l 06 (l 05 a))) (l (A (l (V aL ["_law_train", "_law_script", "_law_found", "_law_many", "_law_places", "_law_shown", "_law_below", "_law_some", "_law_drawn", "_law_ring", "_law_others", "_law_wagons"] [none] ["_law_place"] (I 04) (W 0 ["_law_place"]) (xt 0 c)) (l 05 a))) (l (A (l 04 (l (V aL ["_law_train", "_law_script", "_law_found", "_law_many", "_law_places", "_law_shown", "_law_below", "_law_some", "_law_drawn", "_law_ring", "_law_others", "_law_wagons"] [none,some 03] ["_law_place", "_law_many"] (I 05) (W 0 ["_law_place", "_law_many"]) (xt 0 1)) a))) a)))))
  case' co=>refine' ai ?cp ?ct
  case cp=>o_head (o 07 (R 07 (z (l (A (l (V aL ["_law_train", "_law_script", "_law_found", "_law_many", "_law_places", "_law_shown", "_law_below", "_law_some", "_law_drawn", "_law_ring", "_law_others", "_law_wagons"] [none] ["_law_place"] (I 04) (W 0 ["_law_place"]) (R 0 c)) (l 05 a))) (l (A (l (z (l (y c) (l c (l c a)))) (l (xw (z (l (xf (l c (l (xt 03 c) a))) a)) c) a))) (l (A (l 04 (l 05 a))) a))))))
  case' ct=>refine' ai ?a0 ?a1
  case a0=>
   refine' gX (i:=08) bf.nd 9 9 9 (i8 (sc:=ah aL) (N:=["_law_train", "_law_script", "_law_found", "_law_many", "_law_places", "_law_shown", "_law_below", "_law_some", "_law_drawn", "_law_ring", "_law_others", "_law_wagons"]) (cap:=[8,!03]) (N':=["_law_cell", "_law_many"]) 9 9 ⟨ 9,by decide +kernel,by decide +kernel,by decide +kernel,9,by decide +kernel ⟩) ?a2 (λ_ _ _ _=>?a3) (λ_ _ _ _=>gW) (λ_ _ _ _=>?a4)
   case a2=>o_head (I 1)
   case a3=>o_head (W 0 ["_law_cell", "_law_many"])
   case a4=>o_head (xt (xu 0 (R 1 c)) c)
  case a1=>o_head (j (o 07 (R 07 (z (l (A (l (xc 08 i (S c)) (l (xc 08 (S (y c)) i) a))) (l (A (l 08 (l (xw (z (l (xt 03 c) a)) (t (l 08 a))) a))) a))))) (j (B (I 07) (N 2 (H (U 09) (H (U 10) h))) (k (B (I (z (l 0 (l (xc 0 i (S (y c))) a)))) (U 11) (k (q (w (s (r (aV T) (l (L (O (rJ T) (l 09 (l 10 a))) (m_Odd_shows T) (l 11 a)) (l (r (p7 T) (l 11 (l 09 (l 10 a)))) a))))) (k (n e)) d))))) (k (n e))))
 show ⟨_,9,tA,tr,9,hT,bt,(),aC,λp an H1 s1 cv ha bT _=>⟨_,9,_,_,9,.inl {_,ak.of (s1 _ _ hT),9},(by show 2<=sizeLine;decide),λt ht=>{t,_,9,b9.of aa,9,_,_,9,_,_,9,9,?_}⟩⟩;have s2:=ag.upd (o:=.tup [.ref p,.int ((tr.map V.int).length:3)]) ht;generalize upd H1 t (.tup [.ref p,.int ((tr.map V.int).length:3)])=H2 at s2 ⊢;let(C,bo,ty,b4,is):=BZ T ha bT hz;dsimp only[L2.bN.sq];show fM (R:=λH x=>∃t a b i ps,x=.ref t/\H t=!.tup [.ref a,.ref b]/\H a=!(.lst ((i::ps).map V.int))/\(i::ps).length<=63/\IL 63 H (.ref b)) (λH Q s k=>{_,9,_,_,_,_,_,9,9,wF,ty _ (s2.trans s),b4,_,9,?_}) λx H3 s3 hx=>?_
 ·cases bo with
  | false=>
   show bC ?_;show ⟨(by show 03<=sizeLine;decide),λu hu=>⟨(by show 03<=sizeLine;decide),λv hv=>⟨(by show 2<=sizeLine;decide),λq hq=>k _ _ (((ag.upd hu).trans (ag.upd hv)).trans (ag.upd hq)) ⟨q,u,v,0,[1,2],9,aa,aj (aj aa hv) hq,by decide,v,[2,03,03],9,aj aa hq,by decide⟩⟩⟩⟩
  | true=>
   show aO ?_;let(dx,pA,sA,g1,(_,ps,e,g2,g4),_,g3,r,l,g5):=is 9;cases e;have ap:=s2.trans s;show ⟨_,9,p,_,dx,_,_,9,ap _ _ g1,T.cT,T.cV,bE _ _,_,9,p,_,dx,_,_,9,ap _ _ g1,T.cT,T.cW,eM _ _,(by show 2<=sizeLine;decide),λq hq=>k _ _ (ag.upd hq) ?_⟩;rw[g2]at g5;cases ps with
   | nil=>cases g5
   | cons i ps=>show ⟨q,pA,sA,i,ps,9,aa,aj (ap _ _ g2) hq,g4,(g3.same ap).same (ag.upd hq)⟩
 let(q,b,c,j,ps,9,hq,hb,b0,hc):=hx;show {q,_,9,b9.of hq,9,_,_,9,_,_,9,9,?_};have B:IL 63 H3 (.ref b):={b,_,9,hb,b0};have le:63<=64:=by decide
 have hj:oh ((j::ps).map V.int) ((0:4):3)=!.int j:=aq 9;show fM (ni (mt (au (λ_ r=>r) (λH Q s k=>{_,9,.inl {b,_,0,_,9,9,ak.of (s _ _ hb),hj,_,9,_,_,9,9,k _ H (ag.refl _) {_,9}}}) b8) (by decide)) (fL (bI 9 B) pT dF) (by decide)) λx H4 s4 hx=>?_;have B4:=B.same s4;have C4:=hc.same s4;show fM (ij (R:=PR 64) PR.same (au PR.same (cG (bI 9 hx) (bz le (bI 9 C4)))
  (au PR.same (cG (bz le (mq (BL (bI 9 B4)) (by decide) 9 λi H Q k=>{_,9,_,1,9,9,k _})) (bz le (bI 9 C4)))
  (au PR.same (cG (bz le (bI 9 B4)) (bz le (mq (BL (bI 9 C4)) (by decide) 9 λi H Q k=>{_,9,_,9,_,_,9,9,k _}))) b8))) (by decide)) λy H5 s5 hy=>?_
 have B5:=B4.same s5;have C5:=C4.same s5;show fM (vQ (R:=PR 64) PR.same 9 hy (au PR.same (cG (bz le (mq (BL (bI 9 B5)) (by decide) 9 λi H Q k=>{_,9,.inl {_,1,9,9,k _}})) (bz le (bI 9 C5)))
  (au PR.same (cG (bz (by decide) (mt (au (λ_ r=>r) Iz (au (λ_ r=>r) BO (au (λ_ r=>r) BO b8))) (by decide))) (bz (by decide) (BM (j:=03) (mt (au (λ_ r=>r) (λH Q s k=>{_,9,_,2,9,9,_,_,9,k _ H (ag.refl _) {_,9}}) b8) (by decide)) (λH Q s k=>k) (by decide))))
  (au PR.same (cG (bz le (bI 9 B5)) (bz le (bI 9 C5))) b8))) (by decide)) λy H6 s6 hy=>?_
 have a6:=(((((s1.trans s2).trans s3).trans s4).trans s5).trans s6);show fM (mq (n:=63) (λH Q s k=>{_,9,k _ H (ag.refl _) {a,ns,9,(a6.trans s).seq hN,bA}}) (by decide) 9 λi H Q k=>⟨_,9,_,9,.inl ⟨_,2,9,9,_,_,9,9,(by show (0:3)<_;omega),_,1,9,9,k _⟩⟩) λz H7 s7 b3=>?_;let(dA,ds,9,hd,bm):=b3;have D7:IL 63 H7 (.ref dA):=⟨dA,ds,9,hd,bm⟩;have b1:LR (PR 64) (03+03) H7 y:=let ⟨a,xs,e,f,g,i⟩:=hy;{a,xs,e,s7 _ _ f,g,λy hy=>(i y hy).same s7};show fM (vQ (R:=PR 64) PR.same 9 b1 (au PR.same (cG (bz le (fL (bI 9 D7) dF pT)) (bz le (fL (bI 9 D7) BK dF)))
  (au PR.same (cG (bz le (bI 9 D7)) (bz (n:=ds.length) () (BM (mt (au (λ_ r=>r) (λH Q s k=>{_,9,_,1,9,9,k _ H (ag.refl _) {_,9}}) b8) (by decide)) (λH Q s k=>{_,9,_,_,9,.inl ⟨_,ak.of (s _ _ hd),by rw[lj]⟩,k}) ()))) b8)) (by decide)) λy H8 s8 b2=>?_
 let(fA,xs,9,hf,hk,hX):=b2;have a7:=(a6.trans s7).trans s8
 let bc:Nat->St->Hp->Prop:=λi σ H9=>(∃v6 v7 v8 v9 a8 ab,σ=[!.ref tA,!.ref a,!.ref p,!(.int ((tr.map V.int).length:3)),!.ref b,!.ref c,v6,v7,v8,v9,a8,ab])/\ag H8 H9
 show ⟨_,9,fA,9,{_,ak.of hf},aT (K:=K) (a:=fA) (xs:=xs) bc
  {{_,_,_,_,_,_,9},ag.refl _} (λi σ H9 _ h=>ak.of (h.2 _ _ hf)) ?_ λσ H9 h=>kQ _ (a7.trans h.2)⟩
 rintro i x σ H9 hx ⟨⟨v6,v7,v8,v9,a8,ab,rfl⟩,s9⟩;let(t,g,h,9,ht,(_,rs,e,hg,ng),(_,ss,e',hh,nh)):=(hX x (xA hx)).same s9;cases e;cases e';show {t,_,9,b9.of ht,9,_,_,9,_,_,9,9,?_};have T9:IL 63 H9 (.ref tA):={tA,tr,9,(a7.trans s9) _ _ hT,()};show ij (R:=IL 63) IL.same (au IL.same (bI 9 T9) (au IL.same (fL (bI 9 T9) dF BK) b8)) (by decide) H9 _ (ag.refl _) λx bb a5 hx=>?_;let(wA,ys,9,hw,_,hW):=hx
 let bd:Nat->St->Hp->Prop:=λi σ M=>(∃v6 v7 v8 ab,σ=[!.ref tA,!.ref a,!.ref p,!(.int ((tr.map V.int).length:3)),!.ref b,!.ref c,v6,v7,v8,!.ref g,!.ref h,ab])/\ag bb M
 show ⟨wA,9,{_,ak.of hw},aT (K:=K) (a:=wA) (xs:=ys) bd
  {{_,_,_,_,9},ag.refl _} (λi σ M _ h=>ak.of (h.2 _ _ hw)) ?_ ?_⟩
 ·rintro i x σ M hx ⟨⟨v6,v7,v8,ab,rfl⟩,ac⟩
  let(uA,us,9,hu,_):=(hW x (xA hx)).same ac;have aA:=a5.trans ac;have G:=aA _ _ hg;have G':=aA _ _ hh;show {_,9,_,9,λq dq hq bn _=>?_};have to:∀{c:mu} {o:HO},M c=!o->upd (upd M dq (.own q)) q (.ins Z.aJ dq []) c=!o:=λ{c o} e=>by rw[af (ae e hq),af (ae e bn)];show e
  show {q,dq,g,h,_,_,9,aa,to G,to G',λl1 l2 J o kept e1 e2 _ _ _=>{9,?_}};have u4:ag M J:=λc o e=>kept c o (to e) (ae e hq);show {q,dq,_,9,o,9,_,9,q,l1,l2,uA,rs,ss,us,9,⟨dq,o,e1,e2⟩,u4 _ _ hu,(),(),λJ6 s7=>?_};have S7:=u4.trans s7;show {_,9,_,9,_,9,uA,g,h,rs,ss,us,9,S7 _ _ hu,S7 _ _ G,S7 _ _ G',(),λJ7 s8=>{_,9,{_,9,aO {{_,_,_,_,9},(ac.trans S7).trans s8}}}}
 ·rintro σ M ⟨⟨v6,v7,v8,ab,rfl⟩,ac⟩
  show {{_,_,_,_,_,_,9},s9.trans (a5.trans ac)}
def p8{H:Hp}{C p a l:mu}{gs fs:7 (xD×V)}{xs:7 V}(hp:H p=8)(d:H a=8)(b:upd (upd H a (.own p)) p (.ins C a gs) l=8):
  ag H (upd (upd (upd (upd H a (.own p)) p (.ins C a gs)) l (.lst xs)) p (.ins C a fs))/\upd (upd (upd (upd H a (.own p)) p (.ins C a gs)) l (.lst xs)) p (.ins C a fs) l=!.lst xs/\H l=8:=by
 have f:l≠p:=(ae aa b).symm;rw[af f]at b;have h:l≠a:=(ae aa b).symm;rw[af h]at b;show ⟨λc o e=>?_,by rw[af f,aa],b⟩;rw[af (ae e hp),af (ae e b),af (ae e hp),af (ae e d)];show e
def fm{H:Hp}{a:mu}{gs:7 Gm}(h:ay H a gs):DV K H (.ref a) (.list (gs.map dG)):=
 let ⟨_,e,p⟩:=h;.lst (ak.of e) (nI.paired (Paired.imp (λ_ _ z=>.tup (b9.of z) (.cons (.str _) (.cons (.int _) .nil))) p))
def HD{n:4}{gs:7 Gm}(h:Sm gs):kqdOk (n+2) (.list (gs.map dG))=6:=wP λd a=>by
 let(g,b,9):=Li.mp a;show Hy n (h g b)
def nr(T:7 3):∃ns:7 3,ns.Perm T/\ns.Pairwise (· <= ·):=⟨T.mergeSort (λa b=>decide (a<=b)),List.mergeSort_perm _ _,(List.pairwise_mergeSort (λa b c d e=>by simp at *;omega) (λa b=>by simp;omega) T).imp (λz=>by simpa using z)⟩
def lF{H:Hp}{R:VK}{q:Hp->VK->Prop}{tA j:mu}{b:Bool}{n:4}{T W:7 3}{gs:7 Gm}(t:ak K H tA (T.map V.int))(A:T.length<300)(s:ay H j gs)(u:gs.length<=1000)(v:n<=500)
  (p:∀(H1:Hp) (k:VK),ag H H1->(∀l a,ag H1 a->ak K a l (W.map V.int)->k (.ref l) a)->q H1 k) (c:∀o,ag H o->R (.bl (G.goB T b n gs W)) o):
  ly K [.ref tA,.bl b,.int n,.ref j] H (λx H1=>q H1 λy a=>Fh K x y a R) E0:=by
 unfold G.goB at c;show ⟨tA,j,b,n,T,gs,9,t,A,s,u,v,λhs H1 d=>p H1 _ d λl a f h=>.inr ⟨.none,dI W,.non,.ints h,by unfold kqdOk;rfl,aG _ _,wS (λz=>by cases z) ?_⟩,λst i C H1 d B r=>p H1 _ d λl a f h=>.inr {dI st.left,dI W,.ints (ak.of (f _ _ r)),.ints h,aG _ _,aG _ _,?_}⟩
 ·rw[hs]at c
  show c a (d.trans f)
 ·rw[i]at c
  have this:R (.bl (decide (st.left=W))) a:=c a (d.trans f)
  by_cases e:st.left=W
  ·show sw (by rw[e]) (by rwa [decide_eq_true e]at this)
  ·show wS (λz=>e (ll z)) (by rwa [decide_eq_false e]at this)
def DW(T:7 3)(gs:7 Gm)(h:T.Nodup):Ba T gs []=(decide (T=[])&&decide (gs=[])):=by
 unfold Ba;rw[show dQ T []=6 from 9,JA];let(ns,hp,hs):=nr T;rw[<- yb h hp hs];unfold G.goB;cases gs with
 | nil=>
  rw[decide_eq_true (9:([]:7 Gm)=[]),Bool.and_true];show decide (([]:7 3)=ns)=_;rw[JO,decide_eq_true_iff,decide_eq_true_iff];show ⟨λz=>by rw[<- z]at hp;show hp.symm.eq_nil,λz=>by rw[z]at hp;show hp.eq_nil.symm⟩
 | cons g r=>
  rw[decide_eq_false (show ¬ g::r=[] by simp),Bool.and_false];have z:aU T 5 0 (Yd.init 0) g=8:=by
   unfold aU sY;rw[if_neg (λz=>by have a:=z.1;have b:g.2<0:=z.2;omega)];rfl
  unfold aM;rw[z];rfl
inductive B2  (vs:7 V) (H:Hp) (Q:VK) (u3:XK):Prop
 | mk (tA mA:mu) (T:7 3) (gs:7 Gm):vs=[.ref tA,.ref mA]->H tA=!.lst (T.map V.int)->T.Nodup->T.length<64->ay H mA gs->Sm gs->gs.length<=900->(∀H',ag H H'->Q (.bl 6) H')->B2  vs H Q u3
def cW:al ["_law_train", "_law_moves", "_law_handed", "_law_answers", "_law_blind", "_law_many", "_law_due", "_law_order"] ["_law_train", "_law_moves"] (ah dj):=by o_head AA
def dH(T:Tx K mg Z):fU P w K mg base bu 08 "_law_moves_by_hand" ["_law_train", "_law_moves"] B2:=by
 o_head (AB T.bT cW)
 let(tA,mA,tr,gs,9,hT,a1,hz,hM,hS,ds,kQ):=h
 o_head (AE cW (j (o 2 (xl (l 1 a))) (j (o 03 (z (l (O (rn T) (l 2 a)) (l (O (DJ T) (l 2 a)) (l (O (pS T) (l 2 (l (z a) a))) a))))) (j (p (D 2 (l c a))) (j (q (C (x (xG (m (v 03 c)) 1) (x (xG (m (v 03 c)) 1) (G (xG (m (v 03 c)) 1))))) (k (n e)) d) (j (B (I (z (l (A (l e (l c a))) (l (A (l e (l c a))) (l (A (l e (l c a))) (l (A (l e (l c a))) (l (A (l e (l c a))) a))))))) (N 2 (H (U 04) (H (U 05) h))) (j (o 06 (xx (r (fe T) (l 0 (l 04 (l 05 (l 1 a))))) (xk (l 0 a)))) (k (q (w (s (r (aV T) (l (L (v 03 c) (m_Shunted_shows T) (l 0 (l 04 (l 05 a)))) (l 06 a))))) (k (n e)) d)))) (j (o 07 (r (dS T) (l 0 a))) (j (q (w (s (r (aV T) (l (L (v 03 c) (m_Given_shows T) (l 07 a)) (l (xx (r (fe T) (l (xk (l 07 a)) (l e (l c (l 1 a))))) 07) a))))) (k (n e)) d) (k (n (r (aV T) (l (L (v 03 c) (m_Fewest_shows T) (l 0 a)) (l (P (xx 0 (z a)) (Q (xx 1 (z a)))) a)))))))))))))
 let(rs,hm,ca):=hM;show {_,9,mA,_,9,.inl (ak.of hm),λhA b5=>?_};have s1:=ag.upd (o:=.lst (rs.map V.ref)) b5;have ab:upd H hA (.lst (rs.map V.ref)) hA=!.lst (rs.map V.ref):=aa;generalize upd H hA (.lst (rs.map V.ref))=H1 at s1 ab ⊢;show ⟨_,9,λM d1 a6 b0 _=>⟨M,d1,hA,_,9,aa,by rw[af (ae ab a6),af (ae ab b0)];show ab,λl1 c0 _=>{9,?_}⟩⟩;let(s2,e1,cj):=p8 (xs:=rs.map V.ref) (fs:=[("moves",.ref l1)]) a6 b0 c0;have o1:upd (upd (upd (upd H1 d1 (.own M)) M (.ins Z.aH d1 [])) l1 (.lst (rs.map V.ref))) M (.ins Z.aH d1 [("moves",.ref l1)]) M=!.ins Z.aH d1 [("moves",.ref l1)]:=aa
 generalize upd (upd (upd (upd H1 d1 (.own M)) M (.ins Z.aH d1 [])) l1 (.lst (rs.map V.ref))) M (.ins Z.aH d1 [("moves",.ref l1)])=H2 at s2 e1 o1 ⊢;have an:=s2 _ _ ab;show ⟨_,9,λp2 d2 a7 b1 _=>⟨p2,d2,hA,_,9,aa,by rw[af (ae an a7),af (ae an b1)];show an,λl2 c1 _=>{9,?_}⟩⟩;let(s3,e2,cl):=p8 (xs:=rs.map V.ref) (fs:=[("moves",.ref l2)]) a7 b1 c1;have o2:upd (upd (upd (upd H2 d2 (.own p2)) p2 (.ins Z.aM d2 [])) l2 (.lst (rs.map V.ref))) p2 (.ins Z.aM d2 [("moves",.ref l2)]) p2=!.ins Z.aM d2 [("moves",.ref l2)]:=aa;generalize upd (upd (upd (upd H2 d2 (.own p2)) p2 (.ins Z.aM d2 [])) l2 (.lst (rs.map V.ref))) p2 (.ins Z.aM d2 [("moves",.ref l2)])=H3 at s3 e2 o2 ⊢
 have cA:=s3 _ _ an;show {_,9,Jd _,λeA ct=>?_};have s4:=ag.upd (o:=.lst []) ct;have e4:upd H3 eA (.lst []) eA=!.lst []:=aa;generalize upd H3 eA (.lst [])=H4 at s4 e4 ⊢;have a0:=s4 _ _ cA;show λp3 d3 a8 cp _=>?_;have to:∀{c:mu} {o:HO},H4 c=!o->upd (upd H4 d3 (.own p3)) p3 (.ins Z.aL d3 []) c=!o:=λ{c o} e=>by rw[af (ae e a8),af (ae e cp)];show e
 show {p3,d3,hA,eA,_,_,9,aa,to a0,to e4,λl3 l4 fs H5 cn co c2 o3 f1 f2 f3 e3 e5 kept=>{9,?_}};have s5:ag H4 H5:=λc o e=>kept c o (to e) (ae e a8);have b3:=s5 _ _ a0;show ⟨(by show 03<=sizeLine;decide),λaA bA=>?_⟩;have s6:=ag.upd (o:=.lst [.ref M,.ref p2,.ref p3]) bA;have e6:upd H5 aA (.lst [.ref M,.ref p2,.ref p3]) aA=!.lst [.ref M,.ref p2,.ref p3]:=aa;generalize upd H5 aA (.lst [.ref M,.ref p2,.ref p3])=H6 at s6 e6 ⊢;have b4:=s6 _ _ b3;show ⟨_,9,.inl {9,_,ak.of b4},hA,_,_,9,9,b4,by rw[lj,Paired.length ca];show am (),?_⟩;have a3:ag H H6:=((((s1.trans s2).trans s3).trans s4).trans s5).trans s6
 have s7:ag H (upd H6 hA (.lst (rs.map V.ref++[.int 0]))):=ag.updN a3 b5;have get:∀{c:mu} {o:HO},H6 c=!o->hA≠c->upd H6 hA (.lst (rs.map V.ref++[.int 0])) c=!o:=λe n=>(af n.symm).trans e;have t3:∀{c o},H3 c=!o->H6 c=!o:=λe=>s6 _ _ (s5 _ _ (s4 _ _ e));have A7:=get e6 (ae b3 bA);have O1:=get (t3 (s3 _ _ o1)) (ae ab a6);have L1:=get (t3 (s3 _ _ e1)) (ae ab cj);have O2:=get (t3 o2) (ae an a7);have a4:=get (t3 e2) (ae an cl);have O3:=get (s6 _ _ o3) (ae a0 a8);have L3:=get (s6 _ _ e3) (ae (to a0) cn);have L4:=get (s6 _ _ e5) (ae (to a0) co);generalize upd H6 hA (.lst (rs.map V.ref++[.int 0]))=H7 at s7 A7 O1 L1 O2 a4 O3 L3 L4 ⊢
 have gm:∀{l:mu},H7 l=!.lst (rs.map V.ref)->ay H7 l gs:=λe=>{rs,e,Paired.imp (λ_ _ z=>s7 _ _ z) ca};have S1:ua Z.aH H7 M l1 gs:={d1,_,O1,9,9,gm L1};have S2:ua Z.aM H7 p2 l2 gs:={d2,_,O2,9,9,gm a4};have S3:vw Z.aL H7 p3 l3 l4 gs []:={d3,fs,O3,f1,f2,f3,gm L3,L4,c2};have M7:ay H7 mA gs:=gm (s7 _ _ hm);have ac:∀{n},kqdOk (n+2) (.list (gs.map dG))=6:=HD hS;have a5:∀g∈gs,g.1.length<=100:=λg hg=>(hS g hg).1;clear get t3 a3;show {_,9,.inl {aA,_,0,_,9,9,ak.of A7,9,M,_,d1,_,_,9,O1,T.cH,T.cK,9,_,9,.inr {_,_,fm (gm L1),fm M7,ac,ac,_,9,hV 9 ?_}}}
 show {_,9,.inl {aA,_,1,_,9,9,ak.of A7,9,p2,_,d2,_,_,9,O2,T.c5,T.c6,9,_,9,.inr {_,_,fm (gm a4),fm M7,ac,ac,_,9,hV 9 ?_}}};show {_,9,.inl {aA,_,2,_,9,9,ak.of A7,9,p3,_,d3,_,_,9,O3,T.c1,T.c2,f1,_,9,.inr {_,_,fm (gm L3),fm M7,ac,ac,_,9,hV 9 ?_}}};show ⟨(by show 2<=sizeLine;decide),λt1 c4=>?_⟩;have q1:upd H7 t1 (.tup [.bl 6,.int 1]) t1=!.tup [.bl 6,.int 1]:=aa;have u1:=ag.upd (o:=.tup [.bl 6,.int 1]) c4;generalize upd H7 t1 (.tup [.bl 6,.int 1])=J1 at q1 u1 ⊢;show ⟨(by show 2<=sizeLine;decide),λt2 c5=>?_⟩
 have q2:upd J1 t2 (.tup [.bl 6,.int 2]) t2=!.tup [.bl 6,.int 2]:=aa;have u2:=ag.upd (o:=.tup [.bl 6,.int 2]) c5;generalize upd J1 t2 (.tup [.bl 6,.int 2])=J2 at q2 u2 ⊢;show ⟨(by show 2<=sizeLine;decide),λt3 c6=>?_⟩;have q3:upd J2 t3 (.tup [.bl 5,.int 1]) t3=!.tup [.bl 5,.int 1]:=aa;have u3:=ag.upd (o:=.tup [.bl 5,.int 1]) c6;generalize upd J2 t3 (.tup [.bl 5,.int 1])=J3 at q3 u3 ⊢;show ⟨(by show 2<=sizeLine;decide),λt4 dd=>?_⟩;have q4:upd J3 t4 (.tup [.bl 5,.int 2]) t4=!.tup [.bl 5,.int 2]:=aa;have u4:=ag.upd (o:=.tup [.bl 5,.int 2]) dd
 generalize upd J3 t4 (.tup [.bl 5,.int 2])=J4 at q4 u4 ⊢;show ⟨(by show 2<=sizeLine;decide),λt5 dp=>?_⟩;have q5:upd J4 t5 (.tup [.bl 5,.int 03]) t5=!.tup [.bl 5,.int 03]:=aa;have u5:=ag.upd (o:=.tup [.bl 5,.int 03]) dp;generalize upd J4 t5 (.tup [.bl 5,.int 03])=J5 at q5 u5 ⊢;show ⟨(by show 05<=sizeLine;decide),λfA cv=>?_⟩;have q6:upd J5 fA (.lst [.ref t1,.ref t2,.ref t3,.ref t4,.ref t5]) fA=!.lst [.ref t1,.ref t2,.ref t3,.ref t4,.ref t5]:=aa;have u6:=ag.upd (o:=.lst [.ref t1,.ref t2,.ref t3,.ref t4,.ref t5]) cv;generalize upd J5 fA (.lst [.ref t1,.ref t2,.ref t3,.ref t4,.ref t5])=J6 at q6 u6 ⊢
 have X:∀x∈[V.ref t1,.ref t2,.ref t3,.ref t4,.ref t5],∃(t:mu) (b:Bool) (n:4),x=.ref t/\J6 t=!(.tup [.bl b,.int (n:3)])/\n<=03:=λx hx=>by
  simp only[Jb,Lf,or_false]at hx;let 9||9||9||9||9:=hx
  ·show ⟨t1,6,1,9,u6 _ _ (u5 _ _ (u4 _ _ (u3 _ _ (u2 _ _ q1)))),by decide⟩
  ·show ⟨t2,6,2,9,u6 _ _ (u5 _ _ (u4 _ _ (u3 _ _ q2))),by decide⟩
  ·show ⟨t3,5,1,9,u6 _ _ (u5 _ _ (u4 _ _ q3)),by decide⟩
  ·show ⟨t4,5,2,9,u6 _ _ (u5 _ _ q4),by decide⟩
  ·show ⟨t5,5,03,9,u6 _ _ q5,by decide⟩
 have uJ:ag H7 J6:=((((u1.trans u2).trans u3).trans u4).trans u5).trans u6;have dt:∀{n},kqdOk (n+1) .none=6:=by intro n;unfold kqdOk;rfl
 let ci:Nat->St->Hp->Prop:=λi σ H8=>(∃v4 v5 v6 v7,σ=[!.ref tA,!.ref mA,!.ref hA,!.ref aA,v4,v5,v6,v7])/\ag J6 H8
 show ⟨fA,9,{_,ak.of q6},aT (K:=K) (a:=fA) (xs:=[V.ref t1,.ref t2,.ref t3,.ref t4,.ref t5]) ci
  {{_,_,_,_,9},ag.refl _} (λi σ H8 _ h=>ak.of (h.2 _ _ q6)) ?_ ?_⟩
 ·rintro i x σ H8 hx ⟨⟨v4,v5,v6,v7,rfl⟩,s8⟩
  let(t,b,n,9,ht,hn):=X x (xA hx);show {t,_,9,b9.of (s8 _ _ ht),9,_,_,9,_,_,9,9,?_};have aC:=uJ.trans s8;have bn:=aC _ _ (s7 _ _ hT);let(W,bo,bt):=nr tr;show {_,9,_,9,_,9,_,9,lF (W:=W) (ak.of bn) () (M7.same aC) () () (λH9 k s9 kk=>{_,9,tA,tr,9,ak.of (s9 _ _ bn),(),λl ns hl hp hs=>?_}) λH9 s9=>?_}
  ·rw[cf hs bt (hp.trans bo.symm)]
   show kk l _ (ag.upd hl) (ak.of aa)
  rw[ju a1 bo bt];have y:=aC.trans s9;show {_,9,.inl {aA,_,0,_,9,9,ak.of (y _ _ A7),9,M,d1,_,9,y _ _ O1,9,_,9,_,9,_,9,M,l1,tA,gs,b,n,tr,9,S1.same y,(),a5,y _ _ (s7 _ _ hT),a1,hz,λch a2=>?_}};show {_,9,_,9,{_,9,aO {{_,_,_,_,9},(s8.trans s9).trans a2}}}
 ·rintro σ H8 ⟨⟨v4,v5,v6,v7,rfl⟩,s8⟩
  have aC:=uJ.trans s8;show {_,9,tA,tr,9,aC _ _ (s7 _ _ hT),(),λoA H9 s9 f9 h9=>?_};have y:=aC.trans s9;have c3:(qr tr).length=tr.length:=lj ..;show {_,9,.inl {aA,_,1,_,9,9,ak.of (y _ _ A7),9,p2,d2,_,9,y _ _ O2,9,_,9,p2,l2,oA,gs,qr tr,9,S2.same y,(),a5,h9,(),λch a2=>?_}};have dq:=y.trans a2;show {_,9,oA,qr tr,9,ak.of (a2 _ _ h9),(),λl ns hl hp hs=>?_};have en:ns=Yd.R (qr tr).length:=cf hs (Bj _) (by rw[c3];show hp.trans (BG a1));subst en;have bb:=a2.trans (ag.upd (o:=.lst ((Yd.R (qr tr).length).map V.int)) hl)
  show ⟨_,9,lF (W:=qr tr) (ak.of aa) (by rw[Yd.kI];omega) ((M7.same y).same bb) () (by decide) (λbd k bc kk=>{_,9,kk oA bd (ag.refl _) (ak.of (bc _ _ (bb _ _ h9)))}) λbd bc=>?_⟩;show {_,9,{_,9,aO ?_}};have ap:=(y.trans bb).trans bc;have bm:=ap _ _ (s7 _ _ hT);show {_,9,.inl {aA,_,2,_,9,9,ak.of (ap _ _ A7),9,p3,d3,_,9,ap _ _ O3,f3,_,9,p3,l3,l4,tA,gs,[],tr,9,S3.same ap,(),a5,Jd _,bm,a1,hz,λdr cd=>?_}};rw[DW tr gs a1];have cg:=s7.trans (ap.trans cd);show {_,9,Jd _,λe he=>.inr {dI tr,dI [],.ints (ak.of (aj (cg _ _ hT) he)),.ints (ak.of aa),aG _ _,aG _ _,?_}}
  have a3:=cg.trans (ag.upd (o:=.lst []) he);show {_,9,dw (λz=>?_) λz=>?_}
  ·have z:tr=[]:=ll z
   show {_,9,Jd _,λe2 b2=>.inr {.list (gs.map dG),dI [],fm (ay.same ((ap.trans cd).trans ((ag.upd he).trans (ag.upd b2))) M7),.ints (ak.of aa),ac,aG _ _,?_}};show {decide (gs=[]),?_,kQ _ (a3.trans (ag.upd b2))};rw[decide_eq_true z,JA];show congrArg (λc=>[V.bl (decide (gs=[])),V.bl c]) ?_;show (@decide_eq_decide _ _ _ _).mpr ⟨λq=>List.map_eq_nil_iff.mp (Dat.list.inj q),λq=>by rw[q];rfl⟩
  ·have z:¬ tr=[]:=λq=>z (by rw[q])
   show ⟨5,by rw[decide_eq_false z,Jw];rfl,kQ _ a3⟩
def vX{r d:Bool}{A:Prop}{Q:VK}{H:Hp}(h:r=6->Q (.bl d) H->A)(a:Q (.bl (r&&d)) H):∃c,V.bl r=.bl c/\if c=6 then A else Q (.bl 5) H:=by
 show {r,9,?_};cases r with
 | true=>show bC (h 9 a)
 | false=>show aO a
def sW{r d:Bool}{A:Prop}{Q:VK}{H:Hp}(h:r=6->(∀a,ag H a->Q (.bl d) a)->A)(b:∀a,ag H a->Q (.bl (r&&d)) a):∃c,V.bl r=.bl c/\if c=6 then A else Q (.bl 5) H:=by
 show {r,9,?_};cases r with
 | true=>show bC (h 9 b)
 | false=>show aO (b H (ag.refl _))
def uL{σ:St}{H:Hp}{Q:VK}{v:4}{tA pA:mu}{T ps:7 3}{a b c x y z:3}(e:σ[v]?=!!.ref tA)(f:σ[2]?=!!.ref pA)(n:ak K H tA (T.map V.int))(l:ak K H pA (ps.map V.int))
  (p:oh (ps.map V.int) a=!.int x) (r:oh (ps.map V.int) b=!.int y) (hc:oh (ps.map V.int) c=!.int z) (h:∀q,q=x\/q=y\/q=z->0<=q/\q<T.length)
  (s:Q (.bl (decide (T.getD x.toNat 0<T.getD y.toNat 0)&&decide (T.getD y.toNat 0<T.getD z.toNat 0))) H):
  uZ (zK λi j=>V.bl (decide (i<j))) (zK λi j=>V.bl (decide (i<j))) (wc (nJ K) (gi v) (wc (nJ K) (gi 2) (tC (V.int a)))) (wc (nJ K) (gi v) (wc (nJ K) (gi 2) (tC (V.int b)))) (wc (nJ K) (gi v) (wc (nJ K) (gi 2) (tC (V.int c)))) σ H Q:=by
 have g:∀{q:3},q=x\/q=y\/q=z->oh (T.map V.int) q=!.int (T.getD q.toNat 0):=λ{q} o=>jQ (h q o).1 (h q o).2;show {_,e,_,f,.inl {pA,_,a,_,9,9,l,p,.inl {tA,_,x,_,9,9,n,g (.inl 9),?_}}};show {_,e,_,f,.inl {pA,_,b,_,9,9,l,r,.inl {tA,_,y,_,9,9,n,g (.inr (.inl 9)),?_}}};show {_,_,9,9,vX (d:=decide (T.getD y.toNat 0<T.getD z.toNat 0)) (λ_ q=>?_) s};show {_,e,_,f,.inl {pA,_,c,_,9,9,l,hc,.inl {tA,_,z,_,9,9,n,g (.inr (.inr 9)),_,_,9,9,q}}}
inductive B3  (vs:7 V) (H:Hp) (Q:VK) (u3:XK):Prop
 | mk (tA oA pA:mu) (T O:7 3) (i j k:3):vs=[.ref tA,.ref oA,.ref pA]->H tA=!.lst (T.map V.int)->T.Nodup->T.length<64->H oA=!.lst (O.map V.int)->O.length=T.length->H pA=!.lst [.int i,.int j,.int k]->(∀H',ag H H'->Q (.bl 6) H')->B3  vs H Q u3
def cO:al ["_law_train", "_law_order", "_law_places", "_law_rising_here", "_law_due"] ["_law_train", "_law_order", "_law_places"] (ah cS):=by o_head AA
def cX(T:Tx K mg Z):fU P w K mg base bu 08 "_law_threes_by_hand" ["_law_train", "_law_order", "_law_places"] B3:=by
 o_head (AB T.bW cO)
 let(tA,oA,pA,tr,O,i,j,k,9,hT,an,hz,hO,ac,M,kQ):=h
 o_head (AE cO (j (o 03 (r (fW T) (l 2 (l (t (l 0 a)) a)))) (j (o 04 (P 03 (Q (xP cL cL (v 0 (v 2 c)) (v 0 (v 2 c)) (v 0 (v 2 c)))))) (j (q (w (s (r (aV T) (l (L (O (DI T) (l (v 2 c) (l (v 2 c) (l (v 2 c) a)))) (m_Three_shows T) (l 0 a)) (l 04 a))))) (k (n e)) d) (j (o 04 (P 03 (Q (xP cL cL (v 1 (v 2 c)) (v 1 (v 2 c)) (v 1 (v 2 c)))))) (k (n (r (aV T) (l (L (O (BI T) (l (v 2 c) (l (v 2 c) (l (v 2 c) a)))) (m_Thrice_shows T) (l 1 a)) (l 04 a))))))))))
 have ab:ak K H pA ([i,j,k].map V.int):=ak.of M;show {_,9,_,9,_,_,9,.inl {_,ak.of hT,9},pA,[i,j,k],_,9,ab,?_};rw[lj];have inr:bw tr.length (-1) [i,j,k]=6->∀q,q=i\/q=j\/q=k->0<=q/\q<tr.length:=λp q hq=>by
  rw[ji,Jf]at p;show ln p.1 (by simpa using hq)
 show {_,9,vX (λp q=>uL (tA:=tA) (pA:=pA) (ps:=[i,j,k]) 9 9 (ak.of hT) ab 9 9 9 (λq hq=>inr p q ()) q) ?_};show {_,9,.inl {pA,_,0,_,9,9,ak.of M,9,_,9,.inl {pA,_,1,_,9,9,ak.of M,9,_,9,.inl {pA,_,2,_,9,9,ak.of M,9,λx B hx C _=>{x,B,i,j,k,9,aa,λH1 I kept=>{9,?_}}}}}};have s1:ag H H1:=λc o e=>kept c o (by rw[af (ae e hx),af (ae e C)];show e) (ae e hx);show {x,B,_,9,I,9,_,9,x,tA,i,j,k,tr,9,{B,_,I,9,9,9,9},s1 _ _ hT,an,hz,λH2 s2=>{_,9,_,9,{_,9,aO ?_}}};have z:=s1.trans s2;have y:=z _ _ M
 show ⟨_,9,vX (λp q=>uL (tA:=oA) (pA:=pA) (ps:=[i,j,k]) 9 9 (ak.of (z _ _ hO)) (ak.of y) 9 9 9 (λq hq=>by rw[ac];show inr p q ()) q) ?_⟩;show {_,9,.inl {pA,_,0,_,9,9,ak.of y,9,_,9,.inl {pA,_,1,_,9,9,ak.of y,9,_,9,.inl {pA,_,2,_,9,9,ak.of y,9,λx B hx C _=>{x,B,i,j,k,9,aa,λH3 I kept=>{9,?_}}}}}};have s3:ag H2 H3:=λc o e=>kept c o (by rw[af (ae e hx),af (ae e C)];show e) (ae e hx);show ⟨x,B,_,9,I,9,_,9,x,oA,i,j,k,O,9,{B,_,I,9,9,9,9},s3 _ _ (z _ _ hO),(),λH4 s4=>⟨_,9,pG O i j k,by unfold pG;rw[ac];rfl,kQ _ ((z.trans s3).trans s4)⟩⟩
inductive yi  (vs:7 V) (H:Hp) (Q:VK) (u3:XK):Prop
 | mk (tA pA:mu) (T ps:7 3):vs=[.ref tA,.ref pA]->H tA=!.lst (T.map V.int)->H pA=!.lst (ps.map V.int)->ps.length<=900->(∀H',ag H H'->Q (.bl (dQ T ps)) H')->yi  vs H Q u3
def iO:al ["_law_train", "_law_places"] ["_law_train", "_law_places"] (ah eW):=by o_head AA
def jR(T:Tx K mg Z):fU P w K mg base bu 2 "_law_falling" ["_law_train", "_law_places"] yi:=by
 o_head (AB T.bQ iO)
 let(tA,pA,M,ps,9,hT,hP,ac,kQ):=h
 o_head (AE iO (j (q (w (s (r (fW T) (l 1 (l (t (l 0 a)) a))))) (k (n e)) d) (k (n (xh (l (V eW ["_law_train", "_law_places"] [none,some 0,some 1] ["_law_k", "_law_train", "_law_places"] (xV (l c (l (t (l 1 a)) a))) (W 0 ["_law_k", "_law_train", "_law_places"]) (xB (v 1 (v 2 (xt 0 c))) (v 1 (v 2 0)))) a))))))
 show {_,9,_,9,_,_,9,.inl {_,ak.of hT,9},pA,ps,_,9,ak.of hP,_,9,?_};rw[lj];cases o:bw (M.length:3) (-1) ps with
 | false=>
  have:=kQ H (ag.refl _);unfold dQ at this;rw[o,Jw]at this;show bC this
 | true=>
  show aO ?_;have nn:=(lY o).2.2;show {_,9,_,_,9,.inl {_,ak.of hP,9},1,_,9,⟨by decide,by decide,?_,?_⟩,λp hp=>?_}
  ·rw[lj];omega
  ·rw[lj];omega
  have en:(((ps.map V.int).length:3)-1).toNat=ps.length-1:=by rw[lj];omega
  rw[en]
  let ab:Nat->St->Hp->Prop:=λi σ y=>(∃v,σ=[v,!.ref tA,!.ref pA])/\ag H y/\y p=!.lst (((IZ i).map (jh M ps)).map V.bl)
  show dn (lo:=1) (n:=ps.length-1) ab
   {{_,9},ag.upd hp,aa} ?_ ?_
  ·rintro i σ y hi ⟨⟨v,rfl⟩,C,h3⟩
   have B:=C _ _ hT;have z:=C _ _ hP;have gP:∀j,j<ps.length->oh (ps.map V.int) (j:3)=!.int (ps.getD j 0):=λj I=>by
    show aq ?_;rw[r6,oa,li I];rfl
   have gT:∀j,j<ps.length->oh (M.map V.int) (ps.getD j 0)=!.int (M.getD (ps.getD j 0).toNat 0):=λj I=>by
    have hm:ps.getD j 0∈ps:=by rw[oa,li I];show Mo I
    let(a,b):=nn _ hm;let(k,ek):∃k:Nat,ps.getD j 0=(k:Int):=⟨(ps.getD j 0).toNat,()⟩;rw[ek,Ji];rw[ek]at b;show aq ?_;rw[r6,oa,li ()];rfl
   have e0:(1:3)+(i:3)-1=(i:3):=()
   have e1:(1:3)+(i:3)=((i+1:4):3):=()
   show {_,9,_,9,_,9,_,1,9,9,?_}
   first | dsimp only | skip
   rw[e0];show .inl {pA,_,_,_,9,9,ak.of z,gP i (),.inl {tA,_,_,_,9,9,ak.of B,gT i (),?_}};rw[e1];show {_,9,_,9,_,9,.inl {pA,_,_,_,9,9,ak.of z,gP (i+1) (),.inl {tA,_,_,_,9,9,ak.of B,gT (i+1) (),_,_,9,9,?_}}};show {_,h3,?_,{_,9},ag.updN C hp,?_}
   ·rw[lj,lj,Jv]
    show am ()
   ·rw[aa,NG,v0,v0]
    rfl
  ·rintro σ y ⟨_,C,h3⟩
   show {p,_,9,ak.of h3,?_};have:=kQ y C;unfold dQ at this;rw[o,JA]at this;rw[all_map];show this
inductive B6  (vs:7 V) (H:Hp) (Q:VK) (u3:XK):Prop
 | mk (tA pA mA:mu) (T ps:7 3) (gs:7 Gm):vs=[.ref tA,.ref pA,.ref mA]->H tA=!.lst (T.map V.int)->T.Nodup->T.length<64->H pA=!.lst (ps.map V.int)->ps.length<=200->ay H mA gs->Sm gs->gs.length<=900->(∀H',ag H H'->Q (.bl 6) H')->B6  vs H Q u3
def bF:al ["_law_train", "_law_places", "_law_moves", "_law_handed", "_law_answers", "_law_many", "_law_due"] ["_law_train", "_law_places", "_law_moves"] (ah cR):=by o_head AA
def cY(T:Tx K mg Z):fU P w K mg base bu 08 "_law_places_by_hand" ["_law_train", "_law_places", "_law_moves"] B6:=by
 o_head (AB T.bV bF)
 let(tA,pA,mA,tr,ps,gs,9,hT,a0,hz,hP,c6,hM,hS,c4,kQ):=h;refine' {_,?hterm,?_}
 case hterm=>
  have c:=bF;refine' ai ?q1 ?q2
  case q1=>o_head (o 03 (xl (l 1 a)))
  case' q2=>refine' ai ?q5 ?q6
  case q5=>o_head (o 04 (z (l (O (zI T) (l 03 a)) (l (O (pS T) (l 2 (l 03 a))) a))))
  case' q6=>refine' ai ?cd ?cg
  case cd=>o_head (p (D 03 (l c a)))
  case' cg=>refine' ai ?ch ?ci
  case ch=>o_head (q (C (x (xG (m (v 04 c)) 1) (G (xG (m (v 04 c)) 1)))) (k (n e)) d)
  case' ci=>refine' ai ?cj ?cl
  case cj=>o_head (B (I (z (l (xt (t (l 1 a)) c) (l (t (l 1 a)) (l c a))))) (U 05) (j (o 06 (P (xx (t (l 1 a)) (R 05 c)) (Q (r (jR T) (l 0 (l 1 a)))))) (k (q (C (xQ (xJ 05 c) (xR (w (s (r (aV T) (l (L (v 04 c) (m_Falling_shows T) (l 0 (l 05 a))) (l 06 a)))))))) (k (n e)) d))))
  case' cl=>refine' ai ?cn ?co
  case cn=>
   refine' mK (i:=06) bF.nd 9 (OZ 9) ?cp
   case' cp=>refine' zU ?ct ?cv
   case ct=>o_head (r (jR T) (l 0 (l 1 a)))
   case' cv=>refine' zT ?cA
   case' cA=>refine' Go ?c0 ?c1
   case c0=>o_head (xy 1 (z a))
   case c1=>o_head (Q (xx 0 (z a)))
  case co=>o_head (j (o 06 (P 06 (Q (xx (r (fe T) (l 0 (l e (l (xf (l c (l (t (l 1 a)) a))) (l 2 a))))) (xk (l 0 a)))))) (k (n (r (aV T) (l (L (v 04 c) (m_Fewest_shows T) (l 0 a)) (l 06 a))))))
 let(rs,hm,ca):=hM;show {_,9,pA,_,9,.inl (ak.of hP),λhA bm=>?_};have s1:=ag.upd (o:=.lst (ps.map V.int)) bm;have ab:upd H hA (.lst (ps.map V.int)) hA=!.lst (ps.map V.int):=aa;generalize upd H hA (.lst (ps.map V.int))=H1 at s1 ab ⊢;show ⟨_,9,λp1 d1 a1 a8 _=>⟨p1,d1,hA,_,9,aa,by rw[af (ae ab a1),af (ae ab a8)];show ab,λl1 b4 _=>{9,?_}⟩⟩;let(s2,e1,bA):=p8 (xs:=ps.map V.int) (fs:=[("places",.ref l1)]) a1 a8 b4;have o1:upd (upd (upd (upd H1 d1 (.own p1)) p1 (.ins Z.aK d1 [])) l1 (.lst (ps.map V.int))) p1 (.ins Z.aK d1 [("places",.ref l1)]) p1=!.ins Z.aK d1 [("places",.ref l1)]:=aa
 generalize upd (upd (upd (upd H1 d1 (.own p1)) p1 (.ins Z.aK d1 [])) l1 (.lst (ps.map V.int))) p1 (.ins Z.aK d1 [("places",.ref l1)])=H2 at s2 e1 o1 ⊢;have aC:=s2 _ _ ab;have ap:=s1.trans s2;show {_,9,_,9,λp3 d3 a2 b2 _=>?_};have to:∀{c:mu} {o:HO},H2 c=!o->upd (upd H2 d3 (.own p3)) p3 (.ins Z.aL d3 []) c=!o:=λ{c o} e=>by rw[af (ae e a2),af (ae e b2)];show e
 show {p3,d3,mA,hA,_,_,9,aa,to (ap _ _ hm),to aC,λl3 l4 fs H5 bT b0 b5 o3 f1 f2 f3 e3 e5 kept=>{9,?_}};have s5:ag H2 H5:=λc o e=>kept c o (to e) (ae e a2);have bc:=s5 _ _ aC;show ⟨(by show 2<=sizeLine;decide),λaA a7=>?_⟩;have s6:=ag.upd (o:=.lst [.ref p1,.ref p3]) a7;have e6:upd H5 aA (.lst [.ref p1,.ref p3]) aA=!.lst [.ref p1,.ref p3]:=aa;generalize upd H5 aA (.lst [.ref p1,.ref p3])=H6 at s6 e6 ⊢;have bd:=s6 _ _ bc;show ⟨_,9,.inl {9,_,ak.of bd},hA,_,_,9,9,bd,by rw[lj];show am (),?_⟩;have s7:ag H (upd H6 hA (.lst (ps.map V.int++[.int 0]))):=ag.updN ((ap.trans s5).trans s6) bm
 have get:∀{c:mu} {o:HO},H6 c=!o->hA≠c->upd H6 hA (.lst (ps.map V.int++[.int 0])) c=!o:=λe n=>(af n.symm).trans e;have A7:=get e6 (ae bc a7);have O1:=get (s6 _ _ (s5 _ _ o1)) (ae ab a1);have L1:=get (s6 _ _ (s5 _ _ e1)) (ae ab bA);have O3:=get (s6 _ _ o3) (ae aC a2);have L3:=get (s6 _ _ e3) (ae (to aC) bT);have L4:=get (s6 _ _ e5) (ae (to aC) b0);generalize upd H6 hA (.lst (ps.map V.int++[.int 0]))=H7 at s7 A7 O1 L1 O3 L3 L4 ⊢;have gm:∀{l:mu},H7 l=!.lst (rs.map V.ref)->ay H7 l gs:=λe=>{rs,e,Paired.imp (λ_ _ z=>s7 _ _ z) ca};have S1:A9 Z.aK H7 p1 l1 ps:={d1,_,O1,9,9,L1}
 have S3:vw Z.aL H7 p3 l3 l4 gs ps:={d3,fs,O3,f1,f2,f3,gm L3,L4,b5};have M7:ay H7 mA gs:=gm (s7 _ _ hm);have b1:∀g∈gs,g.1.length<=100:=λg hg=>(hS g hg).1;clear get;have P7:=s7 _ _ hP;have T7:=s7 _ _ hT;show {_,9,.inl {aA,_,0,_,9,9,ak.of A7,9,p1,_,d1,_,_,9,O1,T.cY,T.cZ,9,_,9,.inr {_,_,.ints (ak.of L1),.ints (ak.of P7),aG _ _,aG _ _,_,9,hV 9 ?_}}};show {_,9,.inl {aA,_,1,_,9,9,ak.of A7,9,p3,_,d3,_,_,9,O3,T.c1,T.c3,f2,_,9,.inr {_,_,.ints (ak.of L4),.ints (ak.of P7),aG _ _,aG _ _,_,9,hV 9 ?_}}};show ⟨_,9,_,_,9,.inl {_,ak.of P7,9},_,1,9,9,_,9,_,_,9,.inl {_,ak.of P7,9},(by show 03<=sizeLine;decide),λfA b3=>?_⟩
 have u1:=ag.upd (o:=.lst [.int (((ps.map V.int).length:3)-1),.int ((ps.map V.int).length:3),.int 2]) b3;have q1:upd H7 fA (.lst [.int (((ps.map V.int).length:3)-1),.int ((ps.map V.int).length:3),.int 2]) fA=!(.lst [.int (((ps.map V.int).length:3)-1),.int ((ps.map V.int).length:3),.int 2]):=aa;generalize upd H7 fA (.lst [.int (((ps.map V.int).length:3)-1),.int ((ps.map V.int).length:3),.int 2])=J at u1 q1 ⊢
 let bt:Nat->St->Hp->Prop:=λi σ H8=>(∃v5 v6,σ=[!.ref tA,!.ref pA,!.ref mA,!.ref hA,!.ref aA,v5,v6])/\ag J H8
 show ⟨fA,9,{_,ak.of q1},aT (K:=K) (a:=fA) (xs:=[V.int (((ps.map V.int).length:3)-1),.int ((ps.map V.int).length:3),.int 2]) bt
  {{_,_,9},ag.refl _} (λi σ H8 _ h=>ak.of (h.2 _ _ q1)) ?_ ?_⟩
 ·rintro i x σ H8 hx ⟨⟨v5,v6,rfl⟩,s8⟩
  let(m,9):∃m:Int,x=.int m:=by
   have:=xA hx;simp only[Jb,Lf,or_false]at this;let z||z||z:=this<;>show {_,z}
  have ac:=u1.trans s8;have P8:=ac _ _ P7;have T8:=ac _ _ T7;show {_,9,_,_,9,.inl {_,ak.of P8,9},_,9,.inl {_,1,9,9,.inl {9,?_}}};show sW (Q:=λx H1=>kD 06 x _ H1 _) (d:=dQ tr ps) (λ_ q=>?_) λH9 s9=>?_
  ·show {_,9,_,9,tA,pA,tr,ps,9,T8,P8,(),q}
  have M:=ac.trans s9;show {_,9,_,0,9,9,_,9,dw (λc5=>?_) λ_=>{{_,_,9},s8.trans s9}};let(n,9):∃n:Nat,m=n:=⟨m.toNat,()⟩;show {_,9,.inl {aA,_,0,_,9,9,ak.of (M _ _ A7),9,p1,d1,_,9,M _ _ O1,9,_,9,_,9,p1,l1,tA,ps,n,tr,9,S1.same M,(),M _ _ T7,a0,hz,λbn a3=>?_}};show {_,9,decide (ps.length=n+1)&&dQ tr ps,?_,{_,9,aO {{_,_,9},(s8.trans s9).trans a3}}};rw[show decide (V.int ((ps.map V.int).length:3)=V.int ((n:3)+1))=decide (ps.length=n+1) from decide_eq_decide.mpr ⟨λz=>by have:=V.int.inj z;rw[lj]at this;omega,λz=>by rw[lj,z];rfl⟩]
  rfl
 ·rintro σ H8 ⟨⟨v5,v6,rfl⟩,s8⟩
  have ac:=u1.trans s8;show {_,9,_,9,tA,pA,tr,ps,9,ac _ _ T7,ac _ _ P7,(),λH9 s9=>?_};have M:=ac.trans s9;show sW (Q:=λx H1=>kD 06 x _ H1 _) (d:=decide (ps≠[])||decide (tr=[])) (λ_ q=>?_) λbn a3=>?_
  ·show {_,9,Jd _,λe he=>.inr {dI ps,dI [],.ints (ak.of (aj (M _ _ P7) he)),.ints (ak.of aa),aG _ _,aG _ _,_,9,jc (λz=>?_) λz=>?_}}
   ·rw[decide_eq_true (show ps≠[] from λw=>z (by rw[w])),Qn]at q
    show q _ (ag.upd he)
   ·rw[decide_eq_false (show ¬ ps≠[] from λw=>w (ll z)),Pw]at q
    show {_,9,Jd _,λe2 bb=>.inr {dI tr,dI [],.ints (ak.of (aj (aj (M _ _ T7) he) bb)),.ints (ak.of aa),aG _ _,aG _ _,?_}};have q:=q _ ((ag.upd (o:=.lst []) he).trans (ag.upd (o:=.lst []) bb))
    by_cases w:tr=[]
    ·rw[decide_eq_true w]at q
     show sw (Q:=λx H1=>kD 06 x _ H1 _) (by rw[w]) q
    ·rw[decide_eq_false w]at q
     show wS (Q:=λx H1=>kD 06 x _ H1 _) (λz=>w (ll z)) q
  have an:=M.trans a3;have a4:=an _ _ T7;show {_,9,?_};show sW (Q:=λx H1=>kD 06 x _ H1 _) (d:=bQ tr 5 (max 1 ps.length) gs) (λ_ q=>?_) λc3 c2=>?_
  ·let(W,a5,a6):=nr tr
   rw[<- ju a0 a5 a6]at q;show {_,9,_,9,_,_,9,.inl {_,ak.of (an _ _ P7),9},1,_,9,?_};rw[BW,lj,show max (1:3) (ps.length:3)=((max 1 ps.length:4):3) by omega];show {_,9,lF (W:=W) (ak.of a4) () (M7.same an) () () (λbo k ap kk=>{_,9,tA,tr,9,ak.of (ap _ _ a4),(),λl ns hl hp hs=>?_}) q};rw[cf hs a6 (hp.trans a5.symm)];show kk l _ (ag.upd hl) (ak.of aa)
  have y:=an.trans c2;show {_,9,.inl {aA,_,1,_,9,9,ak.of (y _ _ A7),9,p3,d3,_,9,y _ _ O3,f3,_,9,p3,l3,l4,tA,gs,ps,tr,9,S3.same y,(),b1,(),y _ _ T7,a0,hz,λbo ap=>{_,9,Ba tr gs ps,9,kQ _ (s7.trans (y.trans ap))}}}
inductive p9(K:PySem.W.Frag)(vs:7 V)(H:Hp)(Q:VK)(u3:XK):Prop
 | mk (tA a:mu) (T ns:7 3):vs=[.ref tA,.ref a]->H tA=!.lst (T.map V.int)->ak K H a (ns.map V.int)->T.length<1000->(∀(p:mu) (T':7 3) (H':Hp),ag H H'->H p=8->H' p=!.lst (T'.map V.int)->T'.Perm T->Q (.ref p) H')->p9 K vs H Q u3
def dX:al ["_law_train", "_law_script", "_law_one", "_law_other", "_law_found"] ["_law_train", "_law_script"] (ah i0):=by o_head AA
def jS(T:Tx K mg Z):fU P w K mg base bu 1 "_law_spoiled" ["_law_train", "_law_script"] (p9 K):=by
 o_head (AB T.bJ dX)
 let(tA,a,r,ns,9,C,hS,hz,kQ):=h;refine' {_,?hterm,?_}
 case hterm=>
  have c:=dX;refine' ai ?q1 ?q2
  case q1=>
   refine' mL (i:=2) (j:=03) 9 dX.nd 9 9 (by decide) 9 9 ?q3 (by kernel_rfl) (hs:=by kernel_rfl)
   case q3=>o_head (l (xu (xj (l 1 a)) (xf (l c (l (t (l 0 a)) a)))) (l (xu (xv (xj (l 1 a)) c) (xf (l c (l (t (l 0 a)) a)))) a))
  case' q2=>refine' ai ?ab ?ac
  case ab=>o_head (o 04 (xl (l 0 a)))
  case' ac=>refine' ai ?an ?ap
  case an=>
   refine' cb ?aA ?aC a9
   case aA=>o_head (xG 0 (z a))
   case' aC=>refine' ax ?a0
   case' a0=>refine' rM ?a1 ?a2 (hs:=by kernel_rfl) (hw:=by kernel_rfl)
   case a1=>o_head (A (l (v 0 03) (l (v 0 2) a)))
   case a2=>o_head (N 2 (H (xZ 04 2) (H (xZ 04 03) h)))
  case ap=>o_head (k (n 04))
 have mx:∃m:4,(if ((r.map V.int).length:3)>1 then ((r.map V.int).length:3) else 1)=(m:3)/\1<=m/\m<1000/\(r≠[]->m=r.length):=by
  rw[lj]
  by_cases h1:(r.length:3)>1
  ·rw[if_pos h1]
   show {r.length,9,(),hz,λ_=>rfl}
  ·rw[if_neg h1]
   show ⟨1,9,oN _,by decide,λB=>?_⟩;have:=LY.mpr B;omega
 let(m,em,m1,m2,m3):=mx;show {_,9,a,ns,9,hS,_,9,_,_,9,.inl {_,ak.of C,9},1,_,9,?_};rw[em];show ⟨_,_,9,9,(by show (0:3)<m;omega),?_⟩;show {_,9,a,ns,9,hS,_,07,9,9,⟨by decide,by decide⟩,_,9,_,_,9,.inl {_,ak.of C,9},1,_,9,?_};rw[em];show ⟨_,_,9,9,(by show (0:3)<m;omega),_,_,9,?_⟩;have nz:(m:3)≠0:=()
 have b0:=Lh ns.sum nz;have b1:=KJ ns.sum (show (0:3)<m by omega);have c0:=Lh (ns.sum/07) nz;have c1:=KJ (ns.sum/07) (show (0:3)<m by omega);let(i,ei):∃i:Nat,ns.sum%(m:Int)=(i:Int):=⟨(ns.sum%(m:3)).toNat,()⟩;let(j,ej):∃j:Nat,ns.sum/07%(m:Int)=(j:Int):=⟨(ns.sum/07%(m:3)).toNat,()⟩
 first | dsimp only | dsimp only[L2.bN.sq,L2.bN.lp]
 rw[ei,ej];rw[ei]at b1;rw[ej]at c1;show {_,9,tA,_,9,.inl (ak.of C),λp hp=>?_};have s1:=ag.upd (o:=.lst (r.map V.int)) hp;show {_,9,Jd _,λe he=>.inr {dI r,dI [],.ints (ak.of (aj (s1 _ _ C) he)),.ints (ak.of aa),aG _ _,aG _ _,_,9,?_}};have s2:=s1.trans (ag.upd (o:=.lst []) he);have M:upd (upd H p (.lst (r.map V.int))) e (.lst []) p=!.lst (r.map V.int):=aj aa he;show jc (λB=>?_) (λ_=>?_)
 ·have I:r≠[]:=λz=>B (by rw[z])
  have hm:=m3 I;let(x,ex):∃x,r[i]?=some x:=⟨_,li ()⟩;let(y,ey):∃y,r[j]?=some y:=⟨_,li ()⟩;show ⟨_,9,_,9,.inl ⟨tA,_,_,.int y,9,9,ak.of (s2 _ _ C),aq (by rw[r6,ey];rfl),?_⟩⟩;show ⟨_,9,_,9,.inl ⟨tA,_,_,.int x,9,9,ak.of (s2 _ _ C),aq (by rw[r6,ex];rfl),?_⟩⟩;show ⟨(by show 2<=sizeLine;decide),λu hu=>{u,_,9,b9.of aa,9,_,_,9,?_}⟩;have s3:=s2.trans (ag.upd (o:=.tup [.int y,.int x]) hu);show ⟨_,9,_,9,p,_,_,i,9,9,aj M hu,fB (by rw[lj];omega),_,_,9,?_⟩;show ⟨_,9,_,9,p,_,_,j,9,9,aa,fB (by rw[Kd,lj];omega),9,?_⟩
  show {_,9,kQ p ((r.set i y).set j x) _ (ag.updN (ag.updN s3 hp) hp) hp (by rw[aa,Ma,Ma]) (zb ex ey)}
 ·show {_,9,kQ p r _ s2 hp M (List.Perm.refl _)}
inductive yj(K:PySem.W.Frag)(vs:7 V)(H:Hp)(Q:VK)(u3:XK):Prop
 | mk (a:mu) (ns:7 3) (b:Bool) (n:4):vs=[.ref a,.bl b,.int n]->b=6->ak K H a (ns.map V.int)->ns.length<64->1<=n->n<=100->(∀(p:mu) (T:7 3) (ms:7 Yd.Mv) (H':Hp),ag H H'->H p=8->H' p=!.lst (T.map V.int)->T.Perm (Yd.R ns.length)->Yd.cE T b n ms->Q (.ref p) H')->yj K vs H Q u3
structure qu(H H2:Hp)(kA lA:mu)(ls:7 mu)(len n:4)(b:Bool)(i:4)(st:Yd.St)(ms:7 Yd.Mv):Prop where
 same:ag H H2
 go:Yd.steps (Yd.R len) b (Yd.init n) ms=!st
 val:∀m∈ms,m.2<n
 came:st.came=i
 yds:uN H H2 kA ls st.tr
 left:H2 lA=!.lst (st.left.map V.int)
def qu.len{H j:Hp}{q s:mu}{a:7 mu}{len n:4}{b:Bool}{i:4}{st:Yd.St}{ms:7 Yd.Mv}(m:qu H j q s a len n b i st ms):st.tr.length=n/\a.length=n:=by
 have h:=Yd.mV m.go;have e:(Yd.init n).tr.length=n:=by show (ra n ([]:7 3)).length=n;rw[zg]
 rw[e]at h;show ⟨h,by rw[m.yds.len,h]⟩
def qu.count{H a:Hp}{j q:mu}{s:7 mu}{len n:4}{b:Bool}{i:4}{st:Yd.St}{ms:7 Yd.Mv}(m:qu H a j q s len n b i st ms):st.left.length+(st.tr.map Km).sum=i:=by
 rw[<- m.came];show Yd.dz m.go (λx e=>by show x.2<(ra n ([]:7 3)).length;rw[zg];show m.val x e) (Yd.hZ n)
def IQ(h:Hp)(a i:mu)(b:Bool)(n len:4)(l:7 (7 3))(o p:Option V)(j:4)(σ:St)(e:Hp):Prop:=
 ∃(f:mu) (c:Yd.St) (d:7 Yd.Mv) (q:Option V),σ=[!.ref a,!.bl b,!.int n,!.ref i,!.ref f,o,p,q,8,8]/\ag h e /\
  Yd.steps (Yd.R len) b (Yd.init n) d=!c/\(∀m∈d,m.2<n)/\c.came=len/\c.tr=ra j []++l.drop j/\e f=!.lst (c.left.map V.int)
def cP:al ["_law_script", "_law_blind", "_law_many", "_law_tracks", "_law_left", "_law_n", "_law_turn", "_law_track", "_law_train", "_law_at"] ["_law_script", "_law_blind", "_law_many"] (ah fv):=by o_head AA
def uM(T:Tx K mg Z):fU P w K mg base bu 1 "_law_made" ["_law_script", "_law_blind", "_law_many"] (yj K):=by
 o_head (AB T.bI cP)
 let(a,ns,b,n,9,bc,hS,hz,ej,em,kQ):=h;refine' {_,?hterm,?_}
 case hterm=>
  have c:=cP;refine' ai ?q1 ?q2
  case q1=>
   refine' mL (i:=03) (j:=04) 9 cP.nd 9 9 (by decide) 9 9 ?q3 (by kernel_rfl) (hs:=by kernel_rfl)
   case q3=>o_head (l (V fv ["_law_script", "_law_blind", "_law_many", "_law_tracks", "_law_left", "_law_n", "_law_turn", "_law_track", "_law_train", "_law_at"] [none] ["_law_track"] (J (l 2 a)) (W 0 ["_law_track"]) (z a)) (l (z a) a))
  case' q2=>refine' ai ?dd ?dp
  case dd=>o_head (B (J (l (t (l 0 a)) a)) (U 05) (j (p (D (v 03 (xu (v 0 05) 2)) (l 05 a))) (k (B (J (l (xu (xv (v 0 05) 2) c) a)) (U 06) (j (o 07 (xu (R (xv (xv (v 0 05) 2) c) 06) 2)) (k (q (xG (v 03 07) (z a)) (k (p (D 04 (l (xe (s 1) (xS (v 03 07)) (xU (v 03 07) (l c a))) a)))) d)))))))
  case' dp=>refine' ai ?dq ?dr
  case dq=>
   refine' gS HP 9 ?ds ?dt ?dx
   case ds=>o_head (I 03)
   case dt=>o_head (U 07)
   case' dx=>refine' ax ?dy
   case' dy=>refine' mK (i:=04) cP.nd 9 (OZ 9) ?dA
   case' dA=>refine' kG (lR (K:=K) (by rfl)) (pv 04) ?dV
   case' dV=>refine' tF ?d0 ?d1 (pv 07)
   case d0=>o_head (s 1)
   case' d1=>refine' pB (K:=K) (by rfl) (pv 07) lO ?d2
   case d2=>o_head (S (y c))
  case' dr=>refine' ai ?d3 ?ea
  case d3=>
   refine' gX (i:=08) cP.nd 9 9 9 (i8 (sc:=ah fv) (N:=["_law_script", "_law_blind", "_law_many", "_law_tracks", "_law_left", "_law_n", "_law_turn", "_law_track", "_law_train", "_law_at"]) (cap:=[8]) (N':=["_law_wagon"]) 9 9 ⟨ 9,by decide +kernel,by decide +kernel,by decide +kernel,9,by decide +kernel ⟩) ?eb (λ_ _ _ _=>?ee) (λ_ _ _ _=>gW) (λ_ _ _ _=>fR)
   case eb=>o_head (I 04)
   case ee=>o_head (W 0 ["_law_wagon"])
  case ea=>o_head (j (B (J (l (t (l 04 a)) a)) (U 09) (k (Z 09 (xZ 08 (v 04 09))))) (k (n 08)))
 show {_,9,(n:3),9,(),(),λkA b1=>?_};rw[Ji]
 let ca:Nat->St->Hp->Prop:=λi σ H3=>(∃v,σ=[v])/\ag H H3/\∃ls:7 mu,uN H H3 kA ls (ra i [])
 show dn (lo:=0) (n:=n) ca
  {{_,9},ag.upd b1,[],aa,9,λj l e=>by simp at e,λi j l e=>by simp at e} ?_ ?_
 ·rintro i σ H3 hi ⟨⟨v,rfl⟩,s3,ls,hy⟩
  show {Jd _,λl hl=>{_,(hy.same (ag.upd hl)).lst,?_,{_,9},?_,ls++[l],?_}}
  ·rw[lj,hy.len,zg]
   show am ()
  ·show ag.updN (s3.trans (ag.upd hl)) b1
  ·have:=hy.push s3 hl
   rw[LJ];show this
 rintro σ H3 ⟨_,s3,ls,hy⟩;show {Jd _,λlA a5=>{_,_,9,?_}};have s4:ag H3 (upd H3 lA (.lst [])):=ag.upd a5;have c3:H lA=8:=s3.free a5;have cj:kA≠lA:=ae hy.lst a5;have a8:∀(j:4) l,ls[j]?=!l->l≠lA:=λj l e=>by
  let(c,_,a,_):=hy.each j l e;show ae a a5
 have cp:=(s3.trans s4).seq hS;show {_,9,_,_,9,.inl {_,cp,9},_,9,?_,?_,?_}
 ·rw[lj];omega
 ·rw[lj];omega
 rw[Ji,lj];have leave:∀{H5 H6:Hp} {i:4} {st:Yd.St} {ms:7 Yd.Mv} {t:4} {l:mu} {x:3} {c c':7 3},qu H H5 kA lA ls ns.length n b i st ms->ag H5 H6->ls[t]?=!l->st.tr[t]?=!c->(if b=6 then c=c'++[x] else c=x::c')->
   qu H (upd (upd H6 l (.lst (c'.map V.int))) lA (.lst (st.left.map V.int++[.int x]))) kA lA ls ns.length n b i {st.tr.set t c',st.left++[x],st.came} (ms++[(5,t)]):=λ{H5 H6 i st ms t l x c c'} M s6 el ec hc=>by
  have a4:H l=8:=by
   let(_,_,_,z,_):=M.yds.each _ _ el;show z
  have hD:st.tr.getD t []=c:=by rw[oa,ec];rfl
  have hs:Yd.step (Yd.R ns.length) b st (5,t)=some {st.tr.set t c',st.left++[x],st.came}:=by
   unfold Yd.step;rw[if_neg t7];cases b with
   | true=>
    have cv:c=c'++[x]:=by simpa using hc
    rw[if_pos 9];simp only[hD,cv];rw[Mc];simp
   | false=>show absurd bc (by decide)
  have tl:=(op.mp el).1;show ⟨ag.updN (ag.updN (M.same.trans s6) a4) c3,Yd.je M.go (by show (Yd.step _ _ _ _).bind _=_;rw[hs];rfl),λm hm=>?_,M.came,((M.yds.same s6).set el c').other cj a8,?_⟩
  ·let z||z:=Jc.mp hm
   ·show M.val m z
   ·rw[show m=(5,t) by simpa using z]
    show t<n;have:=M.len.2;omega
  ·rw[aa,v0]
   rfl
 let cd:Nat->St->Hp->Prop:=λi σ H5=>∃(st:Yd.St) (ms:7 Yd.Mv) (v5 v6 v7:Option V),σ=[!.ref a,!.bl b,!.int n,!.ref kA,!.ref lA,v5,v6,v7,8,8]/\qu H H5 kA lA ls ns.length n b i st ms
 show eJ (lo:=0) (n:=ns.length) cd
  {Yd.init n,[],8,8,8,9,{s3.trans s4,9,λm hm=>by (cases hm),9,hy.same s4,aa}} ?_ ?_
 ·rintro i σ H5 hi ⟨st,ms,v5,v6,v7,rfl,M⟩
  rw[show (0:3)+(i:3)=(i:3) from LP _];let(c,ec):∃c,ns[i]?=some c:=⟨_,li hi⟩;have a7:(ns.map V.int)[i]?=!.int c:=by rw[r6,ec];rfl
  have nz:(n:3)≠0:=()
  have t0:=Lh c nz;have t1:=KJ c (show (0:3)<n by omega);let(t,et):∃t:Nat,c%(n:Int)=(t:Int):=⟨(c%(n:3)).toNat,()⟩;let(b3,bd):=M.len;let(l,el):∃l,ls[t]?=some l:=⟨_,li ()⟩;let(d,ed,hl,a4,c4):=M.yds.each _ _ el;have bA:=M.count;have c2:d.length<=i:=by
   have:=Yd.vo (Li.mpr {d,xA ed,9}:d.length∈st.tr.map Km);omega
  show ⟨_,9,_,9,_,9,.inl ⟨a,_,_,.int c,9,9,M.same.seq hS,aq a7,_,9,_,_,9,9,(by show (0:3)<n;omega),?_⟩⟩;show .inl ⟨kA,_,_,.ref l,9,9,ak.of M.yds.lst,(by rw[et];show aq (by rw[r6,el];rfl)),.inl {9,_,ak.of hl},_,9,l,_,_,9,9,hl,(by rw[lj];show am ()),?_⟩;have hs:Yd.step (Yd.R ns.length) b st (6,t)=some {st.tr.set t (d++[(i:3)]),st.left,st.came+1}:=by
   unfold Yd.step;rw[if_pos 9,M.came,Yd.A1 hi];show some (Yd.St.mk (st.tr.set t (st.tr.getD t []++[(i:3)])) st.left (i+1))=_;rw[oa,ed];rfl
  have M1:qu H (upd H5 l (.lst (d.map V.int++[.int i]))) kA lA ls ns.length n b (i+1) {st.tr.set t (d++[(i:3)]),st.left,st.came+1} (ms++[(6,t)]):=by
   have y6:=M.yds.set el (d++[(i:3)]);rw[v0]at y6;show ⟨ag.updN M.same a4,Yd.je M.go (by show (Yd.step _ _ _ _).bind _=_;rw[hs];rfl),λm hm=>?_,by show st.came+1=i+1;rw[M.came],y6,by rw[af (a8 _ _ el).symm];show M.left⟩;let z||z:=Jc.mp hm
   ·show M.val m z
   ·rw[show m=(6,t) by simpa using z]
    show t<n;omega
  generalize upd H5 l (.lst (d.map V.int++[.int i]))=H6 at M1 ⊢;show ⟨_,9,_,9,.inl ⟨a,_,_,.int c,9,9,M1.same.seq hS,aq a7,_,9,_,_,9,9,⟨by omega +splitMinMax,by omega +splitMinMax⟩,_,03,9,9,(by show (0:3)<03;decide),?_⟩⟩;have r0:=Lh (c/(n:3)) (show (03:3)≠0 by decide);have r1:=KJ (c/(n:3)) (show (0:3)<03 by decide);show {_,9,(),(),?_}
  let cg:Nat->St->Hp->Prop:=λi' σ H5=>∃(st:Yd.St) (ms:7 Yd.Mv) (v6 v7:Option V),σ=[!.ref a,!.bl b,!.int n,!.ref kA,!.ref lA,!.int i,v6,v7,8,8]/\qu H H5 kA lA ls ns.length n b (i+1) st ms
  show eJ (lo:=0) cg
   {_,_,_,_,9,M1} ?_ ?_
  ·rintro i' σ H7 ei ⟨r,ac,v6,v7,rfl,M⟩
   show ⟨_,9,_,9,.inl ⟨a,_,_,.int c,9,9,M.same.seq hS,aq a7,_,9,_,_,9,9,⟨by omega +splitMinMax,by omega +splitMinMax⟩,_,03,9,9,⟨by decide,by decide⟩,_,9,.inl ⟨_,_,9,9,_,9,_,_,9,9,(by show (0:3)<n;omega),?_⟩⟩⟩
   first | dsimp only | dsimp only[L2.bN.sq,L2.bN.lp]
   generalize hu:c/(n:3)/03+(0+(i':3))=u;have u0:=Lh u nz;have u1:=KJ u (show (0:3)<n by omega);let(t',cl):∃t:Nat,u%(n:Int)=(t:Int):=⟨(u%(n:3)).toNat,()⟩;rw[cl];let(b3,bd):=M.len;let(l',a3):∃l,ls[t']?=some l:=⟨_,li ()⟩;let(d',a2,b2,ef,eg):=M.yds.each _ _ a3;have bo:(ls.map V.ref)[t']?=!.ref l':=by rw[r6,a3];rfl
   have c0:=M.count;show {_,9,_,9,.inl {kA,_,_,.ref l',9,9,ak.of M.yds.lst,aq bo,?_}};show {Jd _,λeL bT=>.inr {dI d',dI [],.ints (ak.of (aj b2 bT)),.ints (ak.of aa),aG _ _,aG _ _,_,9,?_}};have sE:ag H7 (upd H7 eL (.lst [])):=ag.upd bT;have yE:=M.yds.same sE;have a6:=sE _ _ b2;have ME:qu H (upd H7 eL (.lst [])) kA lA ls ns.length n b (i+1) r ac:={M.same.trans sE,M.go,M.val,M.came,yE,sE _ _ M.left};show jc (λhc=>?_) (λhc=>{r,ac,_,_,9,ME});have an:d'≠[]:=λz=>hc (by rw[z]);show {_,9,.inl {9,_,ak.of ME.left},_,9,b,9,?_};have c6:(r.left.map V.int).length<sizeLine:=by rw[lj];show am ()
   cases b with
   | true=>
    have hx:=Kk an;show bC {_,9,_,9,.inl {kA,_,_,.ref l',9,9,ak.of yE.lst,aq bo,.inl {9,_,ak.of a6},.inl {l',_,.int (d'.getLast an),9,9,a6,?_,?_}}}
    ·rw[lj,r6]
     have hp:=LY.mpr an;rw[li (),List.getLast_eq_getElem an];rfl
    have co:upd (upd H7 eL (.lst [])) l' (.lst ((d'.map V.int).dropLast)) lA=!.lst (r.left.map V.int):=by rw[af (a8 _ _ a3).symm];show ME.left
    show {lA,_,_,9,9,co,c6,?_};have M2:=leave M sE a3 a2 (x:=d'.getLast an) (c':=d'.dropLast) (by rw[if_pos 9];show hx.symm);rw[MI]at M2;show {_,_,_,_,9,M2}
   | false=>show absurd bc (by decide)
  ·rintro σ H7 ⟨r,ac,v6,v7,rfl,M⟩
   show {r,ac,_,_,_,9,M}
 rintro σ H5 ⟨st,ms,v5,v6,v7,rfl,M⟩;let(b3,bd):=M.len;have bA:=M.count;show {_,9,kA,9,{_,ak.of M.yds.lst},?_};show aT (K:=K) (a:=kA) (xs:=ls.map V.ref) (IQ H5 a kA b n ns.length st.tr v5 v6)
  {lA,st,ms,v7,9,ag.refl _,M.go,M.val,M.came,9,M.left} (λj σ H6 _ h=>?_) ?_ ?_
 ·let(_,_,_,_,_,s6,_):=h
  show ak.of (s6 _ _ M.yds.lst)
 ·rintro j x σ H6 hx ⟨qA,r,ac,b5,rfl,s6,ap,C,ab,a1,hq⟩
  let(l,el,9):=aK hx;let(d,ed,hl,a4,c4):=M.yds.each _ _ el;have hj:j<n:=by have:=(op.mp el).1;omega
  have a2:r.tr[j]?=!d:=by
   rw[a1,J8 (by rw[zg];show oN _),zg,Ob,Ml,Qk];show ed
  have cA:=Yd.clear (T:=Yd.R ns.length) (bl:=b) a2;have c1:r.left.length+(r.tr.map Km).sum=ns.length:=by
   rw[<- ab];show Yd.dz ap (λx hx=>by show x.2<(ra n ([]:7 3)).length;rw[zg];show C x hx) (Yd.hZ n)
  have c2:d.length<=(r.tr.map Km).sum:=Yd.vo (Li.mpr {d,xA a2,9});have cn:∀(H7:Hp) (e5:7 3) (q2:mu),ag H6 H7->e5=(if b=6 then d.reverse else d)->H7 q2=8->
    IQ H5 a kA b n ns.length st.tr v5 v6 (j+1) [!V.ref a,!.bl b,!.int n,!.ref kA,!.ref q2,v5,v6,!.ref l,8,8] (upd H7 q2 (.lst (r.left.map V.int++e5.map V.int))):=λH7 e5 q2 s7 he bn=>by
   show ⟨q2,{r.tr.set j [],r.left++e5,r.came},ac++ra d.length (5,j),_,9,(s6.trans s7).trans (ag.upd bn),Yd.je ap (by rw[cA,he]),λm hm=>?_,ab,?_,by rw[aa,v0]⟩
   ·let z||z:=Jc.mp hm
    ·show C m z
    ·rw[(List.mem_replicate.mp z).2];show hj
   ·show r.tr.set j []=_
    rw[a1];show Yd.CZ ()
  have a6:=s6 _ _ hl;show {_,9,_,9,b,9,?_};cases b with
  | true=>
   show bC {_,9,1,9,_,9,9,l,_,9,ak.of a6,λq1 b4=>?_};rw[AW,<- Oo];show .inr (.inl {qA,q1,_,_,9,9,aj hq b4,aa,?_,λq2 bn=>cn _ d.reverse q2 (ag.upd b4) (by rw[if_pos 9]) bn});rw[lj,lj,Kt];show Jh (am ())
  | false=>show absurd bc (by decide)
 rintro σ H6 ⟨qA,r,ac,b5,rfl,s6,ap,C,ab,a1,hq⟩;rw[lj,bd]at a1;have bm:r.left.length=ns.length:=by
  have h1:=Yd.dz ap (λx hx=>by show x.2<(ra n ([]:7 3)).length;rw[zg];show C x hx) (Yd.hZ n);rw[a1,Lg (),Kb,Yd.A2,ab]at h1;omega
 have aC:=Yd.yY ap C bm;have c5:r.left.Nodup:=aC.nodup_iff.mpr (Yd.oM _);have bt:=M.same.trans s6;show {_,9,qA,9,{_,ak.of hq},λtA a0=>?_}
 let ch:Nat->St->Hp->Prop:=λi σ H7=>(∃v,σ=[v])/\ag H6 H7/\H7 tA=!(.lst ((ra i (0:3)).map V.int))
 show aW (K:=K) (a:=qA) (xs:=r.left.map V.int) ch
  {{_,9},ag.upd a0,aa} (λi σ H7 _ h=>ak.of (h.2.1 _ _ hq)) ?_ ?_
 ·rintro i x σ H7 hx ⟨⟨v,rfl⟩,s7,h7⟩
  have hi:=(op.mp hx).1;rw[lj]at hi;show {_,h7,?_,{_,9},ag.updN s7 a0,?_}
  ·rw[lj,zg]
   show am ()
  ·rw[aa,LJ,v0]
   rfl
 rintro σ H7 ⟨_,s7,h7⟩;rw[lj]at h7;have eh:qA≠tA:=ae hq a0;show {_,9,_,_,9,.inl {_,ak.of (s7 _ _ hq),9},_,9,?_,?_,?_}
 ·rw[lj];omega
 ·rw[lj];omega
 rw[Ji,lj]
 let ci:Nat->St->Hp->Prop:=λi σ H8=>∃(T:7 3) (v9:Option V),σ=[!.ref a,!.bl b,!.int n,!.ref kA,!.ref qA,v5,v6,b5,!.ref tA,v9]/\ag H6 H8/\H8 tA=!.lst (T.map V.int)/\T.length=ns.length/\∀(j:4) (x:3),j<i->r.left[j]?=!x->T[x.toNat]?=!(j:3)
 show eJ (lo:=0) (n:=r.left.length) ci
  ⟨ra r.left.length 0,_,9,s7,h7,by rw[zg,bm],λj x hj=>absurd hj (OL _)⟩ ?_ ?_
 ·rintro i σ H8 hi ⟨T,v9,rfl,s8,h8,bb,aA⟩
  rw[show (0:3)+(i:3)=(i:3) from LP _];let(x,ex):∃x,r.left[i]?=some x:=⟨_,li hi⟩;have rng:∀{y:3},y∈r.left->0<=y/\y<ns.length:=λhy=>Yd.Hd (aC.mem_iff.mp hy);let(x0,x1):=rng (xA ex);let(k,ek):∃k:Nat,x=(k:Int):=⟨x.toNat,()⟩;show ⟨_,9,_,9,_,9,_,9,.inl ⟨qA,_,_,.int x,9,9,ak.of (s8 _ _ hq),aq (by rw[r6,ex];rfl),tA,_,_,k,9,9,h8,?_,?_⟩⟩
  ·rw[ek]
   show fB (by rw[lj];omega)
  show ⟨T.set k (i:3),_,9,ag.updN s8 a0,by rw[aa,Ma],by rw[Kd];show bb,λj y hj ey=>?_⟩;let(y0,y1):=rng (xA ey)
  by_cases b0:j=i
  ·subst b0
   rw[ex]at ey;cases ey;rw[ek,Ji,Jm ()]
  ·have an:y.toNat≠k:=λz=>by
    have:x=y:=()
    subst this;have h1:=(op.mp ex);have h2:=(op.mp ey);show b0 ((MX c5).mp (h2.2.trans h1.2.symm))
   rw[JN (JP an)];show aA j y () ey
 ·rintro σ H8 ⟨T,v9,rfl,s8,h8,bb,aA⟩
  let(B,ct):=Yd.t8 ap C bm bb λj x e=>aA j x (op.mp e).1 e;show {_,9,kQ tA T ac H8 (bt.trans s8) (bt.free a0) h8 ct B}
def FZ(s:3):∃a:3,0<a/\a<=10000000/\oh [V.int 1,V.int ((10:3)^(07:3).toNat),V.int 1] (s%03)=!.int a:=by
 have b:=Lh s (show (03:3)≠0 by decide);have c:=KJ s (show (0:3)<03 by decide);let e||e||e:=(show s%03=0\/s%03=1\/s%03=2 by omega)<;>rw[e]
 ·show ⟨1,by decide,by decide,9⟩
 ·show ⟨10000000,by decide,by decide,9⟩
 ·show ⟨1,by decide,by decide,9⟩
inductive mG(K:PySem.W.Frag)(vs:7 V)(H:Hp)(Q:VK)(u3:XK):Prop
 | mk (a:mu) (ns:7 3):vs=[.ref a]->ak K H a (ns.map V.int)->ns.length<64->(∀(p:mu) (ps:7 4) (far:3) (H':Hp),ag H H'->H p=8->H' p=!.lst ((ps.map (Ins.wag ns far)).map V.int)->0<far->far<=10000000->ps.Perm (IZ ns.length)->Q (.ref p) H')->mG K vs H Q u3
def dg:al ["_law_script", "_law_places", "_law_wagons", "_law_far", "_law_k", "_law_at"] ["_law_script"] (ah dO):=by o_head AA
def oB(T:Tx K mg Z):fU P w K mg base bu 1 "_law_inserted" ["_law_script"] (mG K):=by
 o_head (AB T.bH dg)
 let(a,ns,9,hS,hz,k):=h;refine' {_,?hterm,?_}
 case hterm=>
  have c:=dg;refine' ai ?q1 ?q2
  case q1=>
   refine' rM ?q3 ?q4 (hs:=by kernel_rfl) (hw:=by kernel_rfl)
   case q3=>
    refine' o8 ?q5
    case' q5=>refine' aD ?q6 ?q7
    case q6=>o_head (z a)
    case' q7=>refine' aD ?q8 ?q9
    case q8=>o_head (z a)
    case' q9=>refine' aD ?bA cz
    case' bA=>refine' wv (Fl (K:=K) (by rfl)) ?bT ?b0 (λ_ _=>rfl)
    case bT=>
     refine' o8 ?ca
     case' ca=>refine' aD fR ?cd
     case' cd=>refine' aD ?cg ?ch
     case cg=>show kG EQ fR fR
     case ch=>o_head (l c a)
    case b0=>o_head (xu (xj (l 0 a)) c)
   case' q4=>refine' rY (K:=K) (n:=03) (by rfl) 9 ?ci
   case' ci=>refine' i5 ?cj ?cl
   case cj=>o_head (U 1)
   case' cl=>refine' i5 ?cn ?co
   case cn=>show jT (i:=2) dg.nd (by rfl) (by show QI 9)
   case co=>o_head (H (U 03) h)
  case q2=>o_head (j (B (J (l (t (l 0 a)) a)) (U 04) (j (o 05 (xu (v 0 04) (R 04 c))) (j (o 1 (R (R (xc 1 i (S 05)) (z (l 04 a))) (xc 1 (S 05) i))) (k (p (D 2 (l (xw (xt (R (xw c 04) (xu (xv (v 0 04) c) c)) c) 03) a))))))) (k (n (V dO ["_law_script", "_law_places", "_law_wagons", "_law_far", "_law_k", "_law_at"] [none,some 2] ["_law_k", "_law_wagons"] (I 1) (W 0 ["_law_k", "_law_wagons"]) (v 1 0)))))
 let(r,bd,bm,ab):=FZ ns.sum;show {Jd _,λpA a3=>{Jd _,λy M=>?_}};have s1:ag H (upd (upd H pA (.lst [])) y (.lst [])):=(ag.upd a3).trans (ag.upd M);show ⟨10,07,9,9,⟨by decide,by decide,by decide⟩,(by show 03<=sizeLine;decide),λtA an=>?_⟩;have s2:=s1.trans (ag.upd (o:=.tup [.int 1,.int ((10:3)^(07:3).toNat),.int 1]) an);show ⟨_,9,a,ns,9,s2.seq hS,_,03,9,9,(by show (0:3)<03;decide),.inr {tA,_,_,.int r,9,9,b9.of aa,ab,?_}⟩;show ⟨(by show 03<=sizeLine;decide),λuA ap=>{uA,_,9,b9.of aa,9,_,_,9,_,_,9,_,_,9,9,?_}⟩;have s3:=s2.trans (ag.upd (o:=.tup [.ref pA,.ref y,.int r]) ap)
 have a7:pA≠y:=ae aa M;show {_,9,_,_,9,.inl {_,s3.seq hS,9},_,9,?_,?_,?_}
 ·rw[lj];omega +splitMinMax
 ·rw[lj];omega +splitMinMax
 rw[Ji,lj];have bn:upd (upd (upd (upd H pA (.lst [])) y (.lst [])) tA (.tup [.int 1,.int ((10:3)^(07:3).toNat),.int 1])) uA (.tup [.ref pA,.ref y,.int r]) pA=!.lst []:=aj (aj (aj aa M) an) ap;have bo:upd (upd (upd (upd H pA (.lst [])) y (.lst [])) tA (.tup [.int 1,.int ((10:3)^(07:3).toNat),.int 1])) uA (.tup [.ref pA,.ref y,.int r]) y=!.lst []:=aj (aj aa an) ap;have bt:H y=8:=(ag.upd a3).free M
 let a5:Nat->St->Hp->Prop:=λi σ H2=>∃(qA:mu) (ps:7 4) (v4 v5:Option V),σ=[!.ref a,!.ref qA,!.ref y,!.int r,v4,v5]/\ag H H2/\ps.Perm (IZ i)/\H2 qA=!(.lst (ps.map λ(j:Nat)=>V.int (j:3)))/\H2 y=!(.lst ((IZ i).map λj=>V.int (Ins.wag ns r j)))/\qA≠y
 show eJ (lo:=0) (n:=ns.length) a5
  {pA,[],8,8,9,s3,.refl _,bn,bo,a7} ?_ ?_
 ·rintro i σ H2 hi ⟨qA,ps,v4,v5,rfl,sm,e,hq,hw,a8⟩
  let(c,ec):∃c,ns[i]?=some c:=⟨_,li hi⟩;have aC:(ns.map V.int)[i]?=!.int c:=by rw[r6,ec];rfl
  have eD:ns.getD i 0=c:=by rw[oa,ec];rfl
  rw[show (0:3)+(i:3)=(i:3) from LP _];have cp:ps.length=i:=by rw[e.length_eq,Jv]
  show {_,9,_,9,.inl {a,_,_,.int c,9,9,sm.seq hS,aq aC,?_}};show {_,9,.inl {_,1,9,9,_,_,9,9,(),?_}};have a0:=Lh c (show (i:3)+1≠0 by omega);have a1:=KJ c (show (0:3)<(i:3)+1 by omega);let(at_,ab):∃n:Nat,c%((i:Int)+1)=(n:Int):=⟨(c%((i:3)+1)).toNat,()⟩
  first | dsimp only | dsimp only[L2.bN.sq,L2.bN.lp]
  rw[ab];show {_,9,_,9,_,9,qA,_,9,ak.of hq,λb1 bb=>?_};rw[lU,<- Py];show ⟨_,9,(by show 1<=sizeLine;decide),λb2 a2=>?_⟩;show .inr (.inl {b1,b2,_,_,9,9,aj aa a2,aa,?_,λb3 bc=>?_})
  ·simp only[lj,Jn,vl,Jo]
   show Jh (am ())
  have t1:ag H2 (upd (upd (upd H2 b1 (.lst ((ps.take at_).map λ(j:Nat)=>V.int (j:3)))) b2 (.lst [.int i])) b3 (.lst ((ps.take at_).map (λ(j:Nat)=>V.int (j:3))++[.int i]))):=((ag.upd bb).trans (ag.upd a2)).trans (ag.upd bc);show {_,9,_,9,_,9,qA,_,9,ak.of (t1 _ _ hq),λb4 ac=>?_};rw[cJ,<- O7];show .inr (.inl {b3,b4,_,_,9,9,aj aa ac,aa,?_,λb5 C=>?_})
  ·simp only[sB,lj,Jn,JM,vl,Jo]
   show Jh (am ())
  have t2:=(t1.trans (ag.upd (o:=.lst ((ps.drop at_).map λ(j:Nat)=>V.int (j:3))) ac)).trans (ag.upd (o:=.lst ((ps.take at_).map (λ(j:Nat)=>V.int (j:3))++[.int i]++(ps.drop at_).map (λ(j:Nat)=>V.int (j:3)))) C);have a4:=t2 _ _ hw;have aA:b5≠y:=λz=>by
   rw[z]at C;have:=t1.trans (ag.upd (o:=.lst ((ps.drop at_).map λ(j:Nat)=>V.int (j:3))) ac) _ _ hw;rw[this]at C;cases C
  show {_,9,.inl {9,_,ak.of a4},?_};show {_,9,.inl {07,_,9,9,.inl ⟨by decide,by decide⟩,?_}};show {_,9,_,9,.inl {a,_,_,.int c,9,9,(sm.trans t2).seq hS,aq aC,?_}};show ⟨_,03,9,9,⟨by decide,by decide⟩,_,07,9,9,(by show (0:3)<07;decide),.inl {_,_,9,9,_,90,9,9,_,9,.inl {_,r,9,9,.inr {(),()},?_}}⟩;show {y,_,_,9,9,a4,?_,?_}
  ·rw[lj,Jv]
   show am ()
  show {b5,ps.take at_++[i]++ps.drop at_,_,_,9,ag.updN (sm.trans t2) bt,Ins.AS e,?_,?_,aA}
  ·rw[af aA,aa,v0,v0]
   rfl
  ·rw[aa,NG,v0]
   show some (HO.lst (_++[V.int ((07*(i:3)+c/03%07-90)*r)]))=!(HO.lst (_++[V.int (Ins.wag ns r i)]));unfold Ins.wag;rw[eD]
 ·rintro σ H2 ⟨qA,ps,v4,v5,rfl,sm,e,hq,hw,a8⟩
  show {_,9,qA,9,{_,ak.of hq},λp hp=>?_}
  let a6:Nat->St->Hp->Prop:=λi σ H3=>(∃v,σ=[v,!.ref y])/\ag H2 H3/\H3 p=!.lst (((ps.take i).map (Ins.wag ns r)).map V.int)
  show aW (K:=K) (a:=qA) (xs:=ps.map λ(j:Nat)=>V.int (j:3)) a6
   {{_,9},ag.upd hp,aa} (λi σ H3 _ h=>ak.of (h.2.1 _ _ hq)) ?_ ?_
  ·rintro i x σ H3 hx ⟨⟨v,rfl⟩,s4,h4⟩
   let(j,ej,9):=aK hx;have hj:j<ns.length:=Ins.CV e (xA ej);show {_,9,_,9,.inl {y,_,_,.int (Ins.wag ns r j),9,9,ak.of (s4 _ _ hw),aq ?_,_,h4,?_,{_,9},ag.updN s4 hp,?_}}
   ·rw[r6,LI hj]
    rfl
   ·rw[lj,lj,Jn]
    have:ps.length=ns.length:=by rw[e.length_eq,Jv]
    show am ()
   ·rw[aa,aP ej,v0,v0]
    rfl
  ·rintro σ H3 ⟨_,s4,h4⟩
   rw[lj,KL]at h4;show k p ps r H3 (sm.trans s4) (sm.free hp) h4 bd bm e
def B7{T:7 3}{b:Bool}{s s':Yd.St}{m:Yd.Mv}(h:Yd.step T b s m=!s'):s'.came+s'.left.length=s.came+s.left.length+1:=by
 unfold Yd.step at h
 repeat' split at h
 all_goals first | (cases h;first | (show s.came+1+s.left.length=_;omega) | (show s.came+(s.left++[_]).length=_;rw[sB,KS];omega)) | cases h
def rK{T:7 3}{b:Bool}:∀{s s':Yd.St} {ms:7 Yd.Mv},Yd.steps T b s ms=!s'->s'.came+s'.left.length=s.came+s.left.length+ms.length
 | s,s',[],h=>by
  have e:s=s':=vb h;rw[e];rfl
 | s,s',m::r,h=>by
  have a:(Yd.step T b s m).bind (λc=>Yd.steps T b c r)=!s':=h;cases e:Yd.step T b s m with
  | none=>rw[e]at a;cases a
  | some d=>
   rw[e]at a;rw[rK a,B7 e,vl];omega
def zJ{T:7 3}{b:Bool}{n:4}{gs:7 Gm}(h:bQ T b n gs=6):gs.length<=T.length+T.length:=by
 unfold bQ at h
 split at h
 ·rename_i st e
  rw[Jf,decide_eq_true_iff]at h;let(ms,a,_,f):=ic e;have c:=rK a;have d:=Yd.lh a (Jd _);have:st.came+st.left.length=0+0+ms.length:=c;omega
 ·cases h
def HE{n:4}{gs:7 Gm}(h:Iw n gs):Sm gs:=λg a=>by
 let(ms,9,_):=h;let(m,_,9):=Li.mp a;show wd (sg m.1);cases m.1 with
 | true=>show yc
 | false=>show vO
def F0:wd (rd "off"):=⟨by decide +kernel,by decide +kernel⟩
def DX(c:3):∃x,oh [V.str (rd "in"),.str (rd "out"),.str (rd "in"),.str (rd "off")] (c%04)=!.str x/\wd x:=by
 have h:c%04=0\/c%04=1\/c%04=2\/c%04=03:=()
 let h||h||h||h:=h<;>rw[h]
 ·show {_,9,yc}
 ·show {_,9,vO}
 ·show {_,9,yc}
 ·show {_,9,F0}
def DY{T:7 3}{ring a:7 4}(h:rf T ring a){ms:7 Yd.Mv}(B:Yd.cE T 6 2 ms):False:=
 B.no_odd (ps:=λk=>ring.getD k 0) (sh:=λk=>a.getD k 0) h.odd (by have:=h.three;omega) h.at_
def R3(H:Hp)(v:V):Prop:=∃a i j k,v=.ref a/\H a=!.lst [.int i,.int j,.int k]
def R3.same{H b:Hp}{v:V}(s:ag H b)(h:R3 H v):R3 b v:=let ⟨a,i,j,k,e,f⟩:=h;{a,i,j,k,e,s _ _ f}
def vY{H:Hp}{u v q a:mu}{ps qs:7 3}(p:H u=!.lst (ps.map V.int))(r:H v=!.lst (qs.map V.int))(j:H q=8)(h:H a=8){Q:VK}(k:∀d f b,ag H b->b q=!.ins Z.aJ a (Em d f)->HC Z.aJ b q d f ps qs->Q .non b):
  jO Z.aJ [.ref q,.ref u,.ref v] (upd (upd H a (.own q)) q (.ins Z.aJ a [])) Q E0:=by
 have i:∀{c:mu} {o:HO},H c=!o->upd (upd H a (.own q)) q (.ins Z.aJ a []) c=!o:=λ{c o} e=>by rw[af (ae e j),af (ae e h)];show e
 show {q,a,u,v,_,_,9,aa,i p,i r,λd f J o kept l n _ _ _=>k d f J (λc o e=>kept c o (i e) (ae e j)) o ⟨a,o,l,n⟩}
def qc(n:4):7 3:=ra n 04
def yk(n:4):(ra n [V.int 04]).flatten=(qc n).map V.int:=by
 unfold qc
 induction n with
 | zero=>rfl
 | succ n a=>rw[JW,LN,a,JW];rfl
def B9:7 3:=[2,03,04,05,1]
def RB(H:Hp)(v:V):Prop:=∃t r ps d,v=.ref t/\H t=!.tup [.ref r,.bl d]/\H r=!.lst (ps.map V.int)/\ps.length<=10/\mD B9 ps (qc ps.length)=d
def RB.same{H a:Hp}{v:V}(s:ag H a)(h:RB H v):RB a v:=let ⟨t,r,ps,d,e,f,g,i⟩:=h;{t,r,ps,d,e,s _ _ f,s _ _ g,i}
def rb(ps:7 3)(d:Bool)(h:mD B9 ps (qc ps.length)=d)(a:ps.length<=10){H:Hp}{r t:mu}(hr:H r=8)(b:upd H r (.lst (ps.map V.int)) t=8):RB (upd (upd H r (.lst (ps.map V.int))) t (.tup [.ref r,.bl d])) (.ref t):={t,r,ps,d,9,aa,aj aa b,a,h}
def z2:2<=sizeLine:=by decide
def RC(H:Hp)(v:V):Prop:=∃r ps,v=.ref r/\H r=!.lst (ps.map V.int)/\ps.length=03/\mD B9 ps (qc 03)=5
def RC.same{H a:Hp}{v:V}(s:ag H a)(h:RC H v):RC a v:=let ⟨r,ps,e,f,i⟩:=h;{r,ps,e,s _ _ f,i}
def rc(ps:7 3)(h:mD B9 ps (qc 03)=5)(a:ps.length=03){H:Hp}{r:mu}(hr:H r=8):RC (upd H r (.lst (ps.map V.int))) (.ref r):=⟨r,ps,9,aa,a,h⟩
def qd:al ["_law_script", "_law_made_here", "_law_train", "_law_told", "_law_moves", "_law_good", "_law_some", "_law_falls", "_law_places", "_law_orders", "_law_cell", "_law_first", "_law_threes", "_law_beside", "_law_ring", "_law_due"] ["_law_script"] (ah lM):=by o_head AA
def F1 {f:mu} {fd:Kz} (T:Tx K mg Z) (F:qe K "law" "law" lM f fd):cQ P w K mg base bu 11 f fd ["_law_script"] (mJ K):=by
 show F.ok qd (λvs H Q E h=>?_) (λcdv A outer s H vs Q E hr h=>?_)
 ·let(a,ns,9,_):=h
  rfl
 ·let(a,ns,9,hS,hz,hL,kQ):=h
  have a0:=ow.of T hL;refine' {_,?hterm,?_}
  case hterm=>
   have c:=qd;refine' ai ?q1 ?q2
   case q1=>
    refine' mL (i:=1) (j:=2) 9 qd.nd 9 9 (by decide) 9 9 ?q3 (by kernel_rfl) (hs:=by kernel_rfl)
    case q3=>o_head (l (r (uM T) (l 0 (l e (l c a)))) (l (r (oB T) (l 0 a)) a))
   case' q2=>refine' ai ?hW ?hY
   case hW=>o_head (o 03 (r (BJ T) (l 2 a)))
   case' hY=>refine' ai ?h0 ?h3
   case h0=>
    refine' gX (i:=04) qd.nd 9 9 9 (i8 (sc:=ah lM) (N:=["_law_script", "_law_made_here", "_law_train", "_law_told", "_law_moves", "_law_good", "_law_some", "_law_falls", "_law_places", "_law_orders", "_law_cell", "_law_first", "_law_threes", "_law_beside", "_law_ring", "_law_due"]) (cap:=[8]) (N':=["_law_cell"]) 9 9 ⟨ 9,by decide +kernel,by decide +kernel,by decide +kernel,9,by decide +kernel ⟩) ?h4 (λ_ _ _ _=>?h5) (λ_ _ _ _=>gW) (λ_ _ _ _=>?h6)
    case h4=>o_head (I 0)
    case h5=>o_head (W 0 ["_law_cell"])
    case h6=>o_head (A (l (v (A (l f (l f (l f (l f a))))) (xu 0 c)) (l (xt (xu (xv 0 c) c) (xv (xu (xv 0 c) c) c)) a)))
   case' h3=>refine' ai ?h7 ?h8
   case h7=>o_head (o 05 (m (r (jP T) (l 1 a))))
   case' h8=>refine' ai ?h9 ?ia
   case h9=>o_head (B (I (z (l 04 (l 05 (l (r (fD T) (l 05 (l 0 a))) (l (xc 05 i (S (y c))) (l (m 03) a))))))) (U 06) (k (q (C (x (w (s (r (dH T) (l 1 (l 06 a))))) (G (w (s (r (dH T) (l 2 (l 06 a)))))))) (k (n e)) d)))
   case' ia=>refine' ai ?ib ?ih
   case ib=>
    refine' mK (i:=07) qd.nd 9 (OZ 9) ?ik
    case' ik=>refine' rN ?ip
    case' ip=>refine' aD ?it ?iv
    case it=>o_head (m 03)
    case' iv=>refine' aD ?iw ?ix
    case iw=>o_head (xc (m 03) (S c) i)
    case' ix=>refine' aD ?i1 ?i2
    case i1=>
     refine' pB (K:=K) (by rfl) ?ja lO ?jj
     case ja=>o_head (m 03)
     case jj=>o_head (S (y c))
    case i2=>o_head (l (r (fD T) (l (m 03) (l 0 a))) a)
   case' ih=>refine' ai ?jp ?j0
   case jp=>o_head (B (I (R 07 (z (l (V lM ["_law_script", "_law_made_here", "_law_train", "_law_told", "_law_moves", "_law_good", "_law_some", "_law_falls", "_law_places", "_law_orders", "_law_cell", "_law_first", "_law_threes", "_law_beside", "_law_ring", "_law_due"] [none] ["_law_cell"] (I 0) (W 0 ["_law_cell"]) (xt (xu 0 c) c)) a)))) (U 08) (k (q (C (x (w (s (r (cY T) (l 2 (l 08 (l (m 03) a)))))) (G (w (s (r (cY T) (l 1 (l 08 (l 05 a))))))))) (k (n e)) d)))
   case' j0=>refine' ai ?ew ?ey
   case ew=>o_head (o 09 (z (l (r (dS T) (l 2 a)) (l (r (dS T) (l 1 a)) a))))
   case' ey=>refine' ai ?ez ?eA
   case ez=>
    refine' gS HP 9 ?eD ?eH ?eL
    case eD=>o_head (I (R 0 (z (l c a))))
    case eH=>o_head (U 10)
    case' eL=>refine' ai ?eN ?eT
    case eN=>o_head (o 11 (xt (xu 10 (R (t (l 0 a)) c)) c))
    case' eT=>refine' ai ?e0 ?e4
    case e0=>o_head (o 12 (z (l 11 (l (R 11 (xu (xv 10 c) c)) (l (R (R 11 (xu (xv 10 c) c)) (xu (xv 10 c) c)) a)))))
    case' e4=>refine' ax ?e5
    case' e5=>refine' gS HP 9 ?e6 ?e8 ?fa
    case e6=>
     refine' i9 (K:=K) (by rfl) ?fk
     case' fk=>refine' rN ?fn
     case' fn=>refine' aD (pv 12) ?fp
     case' fp=>refine' aD ?fq ?fx
     case fq=>
      refine' pB (K:=K) (by rfl) (pv 12) lO ?fy
      case fy=>o_head (S (y c))
     case fx=>o_head (l (R (xc 12 (S c) i) (xc 12 i (S c))) a)
    case e8=>o_head (U 08)
    case fa=>o_head (k (q (C (x (w (s (r (cX T) (l 2 (l (v 09 c) (l 08 a)))))) (G (w (s (r (cX T) (l 1 (l (v 09 c) (l 08 a))))))))) (k (n e)) d))
   case eA=>o_head (j (o 13 (z (l c (l c (l c (l c (l c a))))))) (j (B (I (z (l (A (l (z (l c (l c (l c a)))) (l e a))) (l (A (l (z (l c (l c (l c (l c a))))) (l e a))) (l (A (l (z (l c (l c (l c a)))) (l e a))) (l (A (l (z (l c (l c a))) (l e a))) (l (A (l (z (l c (l c (l c a)))) (l e a))) a))))))) (N 2 (H (U 14) (H (U 15) h))) (k (q (w (s (r (aV T) (l (L (O (rJ T) (l 14 (l (xw (z (l c a)) (t (l 14 a))) a))) (m_Odd_shows T) (l 13 a)) (l 15 a))))) (k (n e)) d))) (j (B (I (z (l (z (l (y c) (l c (l c a)))) (l (z (l c (l c (l c a)))) (l (z (l c (l (y c) (l c a)))) (l (z (l (y c) (l c (l c a)))) a)))))) (U 14) (k (q (w (s (r (aV T) (l (L (O (rJ T) (l 14 (l (xw (z (l c a)) c) a))) (m_Odd_shows T) (l 13 a)) (l e a))))) (k (n e)) d))) (j (q (w (s (r (aV T) (l (L (O (rJ T) (l (z (l (y c) (l c (l c a)))) (l (z (l c (l c (l c a)))) a))) (m_Odd_shows T) (l (z (l c (l c (l c (l c a))))) a)) (l e a))))) (k (n e)) d) (j (q (C (x (w (s (r (cV T) (l 2 (l 0 a))))) (G (w (s (r (cV T) (l (r (jS T) (l 1 (l 0 a))) (l 0 a)))))))) (k (n e)) d) (k (n (P (r (d9 T) (l 2 (l 0 a))) (Q (r (d9 T) (l (r (jS T) (l 1 (l 0 a))) (l 0 a))))))))))))
  show ⟨_,9,a,ns,6,2,9,9,hS,(),by decide,by decide,λmA Tm ms H1 s1 f1 h1 ep hB=>?_⟩;have es:Tm.length=ns.length:=by rw[ep.length_eq,Yd.kI]
  have bm:Tm.Nodup:=ep.nodup_iff.mpr (Yd.oM _);show {_,9,a,ns,9,s1.seq hS,(),λiA ps d0 H2 s2 f2 h2 hO kz b0=>{_,_,9,?_}};have hP:(ps.map (Ins.wag ns d0)).length=ns.length:=by rw[lj,b0.length_eq,Jv]
  have a3:(ps.map (Ins.wag ns d0)).Nodup:=Ins.tV ns hO b0;generalize ps.map (Ins.wag ns d0)=Tr at h2 hP a3;have gk:=s1.trans s2;show {_,9,iA,Tr,9,h2,a3,(),a0.same gk,λp3 m3 q3 g3 hU H3 s3 hF cv kA hR=>?_};let(dV,ky,o3,k1,k2,k3,M3,P3,_):=hF;have cn:=gk.trans s3;have a2:=s3 _ _ (s2 _ _ h1);have bc:=s3 _ _ h2;have n4:(0:3)<04:=by decide
  dsimp only[L2.bN.sq];show fM (R:=ML 63) (λH Q s k=>{_,9,a,9,{_,(cn.trans s).seq hS},λp hp=>?_}) λmv H4 s4 hQ=>?_
  ·let g8:Nat->St->Hp->Prop:=λi σ H2=>(∃v,σ=[v])/\ag H H2/\∃gs,ay H2 p gs/\gs.length=i/\Sm gs
   show aW (K:=K) (a:=a) (xs:=ns.map V.int) g8
    {{_,9},ag.upd hp,[],{[],aa,.nil},9,λg hg=>by cases hg} (λi σ H2 _ h=>((cn.trans s).trans h.2.1).seq hS) ?_ ?_
   ·rintro i x σ H2 hx ⟨⟨v,rfl⟩,s2,gs,bd,hg,d2⟩
    let(c,ec,9):=aK hx;have hi:=(op.mp ec).1;show ⟨(by show 04<=sizeLine;decide),λu hu=>?_⟩;let(x,ex,hx):=DX c;show {_,9,_,04,9,9,n4,.inr {u,_,c%04,.str x,9,9,b9.of aa,ex,?_}};show ⟨_,9,_,04,9,9,⟨by decide,by decide⟩,_,03,9,9,(by show (0:3)<03;decide),_,9,_,12,9,9,⟨by decide,by decide⟩,_,13,9,9,(by show (0:3)<13;decide),_,12,9,9,⟨by decide,by decide⟩,_,_,9,9,(by show 2<=sizeLine;decide),λt ht=>?_⟩;let(rs,e1,e2,e3):=ay.push (x,_) (bd.same (ag.upd hu)) ht;show ⟨_,aj e1 ht,by rw[lj,e2];show am (),{_,9},ag.updN ((s2.trans (ag.upd hu)).trans (ag.upd ht)) hp,_,e3,by rw[sB,hg];rfl,d2.app (.one hx)⟩
   ·rintro σ H2 ⟨_,s2,gs,bd,hg,d2⟩
    rw[lj]at hg;show k _ H2 s2 {_,gs,9,bd,d2,()}
  have j6:=cn.trans s4;show {_,9,mA,Tm,9,s4 _ _ a2,bm,(),a0.same j6,λp5 an H5 s5 kE ha cg _=>?_};cases an with
  | od pA sA ring k0=>show (DY cg hB).elim
  | sh qA gs=>
  have cg:bQ Tm 6 2 gs=6:=cg;let((dx,fs,g1,g2,_,g4),_,eq):=ha;show {p5,_,dx,_,_,9,g1,T.cH,T.cK,g2,?_};have kC:=zJ cg;have Mg:ML 126 H5 (.ref qA):={qA,gs,9,g4,HE eq,()};have cl:=s4.trans s5;have gp:=cn.trans cl;have c1:=hQ.same s5;dsimp only[L2.bN.sq];show ij (R:=ML 300) ML.same (au ML.same (yd (by decide) (sQ 9 c1)) (au ML.same (yd (by decide) (sQ 9 Mg)) (au ML.same (yd (by decide) (DK (sQ 9 Mg) 9 (gp.seq hS) hz (by decide)))
   (au ML.same (yd (by decide) (Hz (sQ 9 Mg) dF BK)) (au ML.same (λH Q s k=>{_,9,p3,_,dV,_,_,9,s _ _ (cl _ _ o3),T.c1,T.c2,k1,k _ H (ag.refl _) {m3,g3,9,(M3.same cl).same s,cv,()}}) b8))))) (by decide) H5 _ (ag.refl _) λx H6 s6 hx=>?_
  let(fA,xs,9,hf,_,hX):=hx;have f5:=cl.trans s6;have j7:=gp.trans s6
  let g9:Nat->St->Hp->Prop:=λi σ H7=>(∃v6,σ=[!.ref a,!.ref mA,!.ref iA,!.ref p3,!mv,!.ref qA,v6,8,8,8,8,8,8,8,8,8])/\ag H6 H7
  show ⟨fA,9,{_,ak.of hf},aT (K:=K) (a:=fA) (xs:=xs) g9
   {{_,9},ag.refl _} (λi σ H7 _ h=>ak.of (h.2 _ _ hf)) ?_ ?_⟩
  ·rintro i x σ H7 hx ⟨⟨v6,rfl⟩,s7⟩
   let(yA,en,9,b1,ed,kN):=(hX x (xA hx)).same s7;have bt:=f5.trans s7;show {_,9,_,9,mA,yA,Tm,en,9,bt _ _ a2,bm,(),b1,ed,(),λH8 s8=>{_,9,aO ?_}};show {_,9,_,9,iA,yA,Tr,en,9,s8 _ _ (bt _ _ bc),a3,(),b1.same s8,ed,(),λH9 s9=>{_,9,aO {{_,9},(s7.trans s8).trans s9}}}
  rintro σ H7 ⟨⟨v6,rfl⟩,s7⟩;have bt:=f5.trans s7;have gt:=j7.trans s7;have hn:=(Mg.same s6).same s7;have kS:=(c1.same s6).same s7;dsimp only[L2.bN.sq];have FP:∀{σ:St},σ[03]?=!!.ref p3->Gd (IL 63) σ H7 (ET K (gi 03) (rd "places")):=λe H Q s k=>{_,e,p3,_,dV,_,_,9,s _ _ (bt _ _ o3),T.c1,T.c3,k2,k _ H (ag.refl _) {q3,hU,9,s _ _ (bt _ _ P3),hR}};show fM (ij (R:=IL 126) IL.same (au IL.same (bz (by decide) (FP 9)) (au IL.same (bz (by decide) (fL (FP 9) pT dF)) (au IL.same (bz (by decide) (vP (FP 9) dF)) (au IL.same (sP (FP 9) 9 (gt.seq hS) hz (by decide)) b8)))) (by decide)) λfl H8 s8 DH=>?_
  have gx:=gt.trans s8;have j5:=bt.trans s8;have ho:=hn.same s8;show vQ (R:=IL 126) IL.same 9 DH (au IL.same (bz (by decide) (mq (n:=63) (λH Q s k=>{_,9,k _ H (ag.refl _) {a,ns,9,(gx.trans s).seq hS,hz}}) (by decide) 9 λi H Q k=>⟨_,9,_,09,9,9,(by show (0:3)<09;decide),_,1,9,9,k _⟩)) b8) (by decide) H8 _ (ag.refl _) λx H9 s9 hx=>?_;let(el,kk,9,c0,_,hK):=hx;have f6:=j5.trans s9;have kc:=gx.trans s9;have hw:=ho.same s9
  let hb:Nat->St->Hp->Prop:=λi σ H7=>(∃v6 v7 v8,σ=[!.ref a,!.ref mA,!.ref iA,!.ref p3,!mv,!.ref qA,v6,v7,v8,8,8,8,8,8,8,8])/\ag H9 H7
  show ⟨el,9,{_,ak.of c0},aT (K:=K) (a:=el) (xs:=kk) hb
   {{_,_,_,9},ag.refl _} (λi σ H7 _ h=>ak.of (h.2 _ _ c0)) ?_ ?_⟩
  ·rintro i x σ gV hx ⟨⟨v6,v7,v8,rfl⟩,a4⟩
   let(yA,qs,9,b1,ed):=(hK x (xA hx)).same a4;have ab:=f6.trans a4;show {_,9,_,9,_,9,p3,_,dV,_,_,9,ab _ _ o3,T.c1,T.c2,k1,iA,yA,m3,Tr,qs,g3,9,ab _ _ bc,a3,(),b1,(),M3.same ab,cv,(),λg0 a5=>{_,9,aO ?_}};let(_,hC,e,r1,r2,r3):=(hw.same a4).same a5;cases e;show {_,9,_,9,_,9,mA,yA,qA,Tm,qs,hC,9,a5 _ _ (ab _ _ a2),bm,(),a5 _ _ b1,(),r1,r2,(),λds cj=>{_,9,aO {{_,_,_,9},(a4.trans a5).trans cj}}}
  rintro σ gV ⟨⟨v6,v7,v8,rfl⟩,a4⟩;have ab:=f6.trans a4;have f7:=kc.trans a4;show ⟨_,9,iA,Tr,9,ab _ _ bc,(),λo1 g0 a5 _ e1=>⟨_,9,mA,Tm,9,a5 _ _ (ab _ _ a2),(),λo2 ds cj _ e2=>⟨(by show 2<=sizeLine;decide),λrA ea=>?_⟩⟩⟩;have eg:=(a5.trans cj).trans (ag.upd (o:=.lst [.ref o1,.ref o2]) ea);have er:upd ds rA (.lst [.ref o1,.ref o2]) rA=!.lst [.ref o1,.ref o2]:=aa;have E1:=aj (o:=.lst [.ref o1,.ref o2]) (cj _ _ e1) ea;have E2:=aj (o:=.lst [.ref o1,.ref o2]) e2 ea;generalize upd ds rA (.lst [.ref o1,.ref o2])=ei at eg er E1 E2 ⊢;have b2:=ab.trans eg
  have c5:=f7.trans eg;show ⟨_,9,(by show 1<=sizeLine;decide),λe he=>.inr (.inr (.inr (.inr {a,e,ns.map V.int,[.int 0],9,9,(c5.trans (ag.upd he)).seq hS,ak.of aa,?_,λcA hN=>?_})))⟩
  ·rw[lj]
   show Jh (am (show ns.length+1<=1000 by omega))
  have co:=(ag.upd (o:=.lst [.int 0]) he).trans (ag.upd (o:=.lst (ns.map V.int++[.int 0])) hN);have ec:upd (upd ei e (.lst [.int 0])) cA (.lst (ns.map V.int++[.int 0])) cA=!(.lst ((ns++[0]).map V.int)):=by rw[aa,v0];rfl
  generalize upd (upd ei e (.lst [.int 0])) cA (.lst (ns.map V.int++[.int 0]))=g5 at co ec ⊢;have fT:=b2.trans co;have c6:=c5.trans co
  let hh:Nat->St->Hp->Prop:=λi σ H7=>(∃v6 v7 v8 ac ap aA,σ=[!.ref a,!.ref mA,!.ref iA,!.ref p3,!mv,!.ref qA,v6,v7,v8,!.ref rA,ac,ap,aA,8,8,8])/\ag g5 H7
  show ⟨cA,9,{_,ak.of ec},aT (K:=K) (a:=cA) (xs:=(ns++[0]).map V.int) hh
   {{_,_,_,_,_,_,9},ag.refl _} (λi σ H7 _ h=>ak.of (h.2 _ _ ec)) ?_ ?_⟩
  ·rintro i x σ bb hx ⟨⟨v6,v7,v8,ac,ap,aA,rfl⟩,bn⟩
   let(c,_,9):=aK hx;show ⟨_,9,_,9,_,_,9,.inl {_,(c6.trans bn).seq hS,9},.inl ⟨_,2,9,9,_,_,9,9,(by show (0:3)<_;omega),_,1,9,9,?_⟩⟩;have d3:(0:3)<03:=by decide
   show {_,9,_,9,_,9,_,05,9,9,⟨by decide,by decide⟩,_,03,9,9,d3,.inl {_,_,9,9,?_}};show ⟨_,9,_,9,_,05,9,9,⟨by decide,by decide⟩,_,03,9,9,d3,.inl ⟨_,_,9,9,_,9,_,15,9,9,⟨by decide,by decide⟩,_,04,9,9,n4,.inl ⟨_,_,9,9,(by show 03<=sizeLine;decide),λt3 ci=>?_⟩⟩⟩;generalize c%(((ns.map V.int).length:3)+2)-1=f1 at ci ⊢;generalize f1+c/05%03=f2 at ci ⊢;generalize f2+c/15%04=f3 at ci ⊢;have a6:=ag.upd (o:=.lst [.int f1,.int f2,.int f3]) ci;have et:upd bb t3 (.lst [.int f1,.int f2,.int f3]) t3=!.lst [.int f1,.int f2,.int f3]:=aa;generalize upd bb t3 (.lst [.int f1,.int f2,.int f3])=ca at a6 et ⊢
   show ij (R:=R3) R3.same (au R3.same (λH Q s k=>{_,9,k _ H (ag.refl _) {t3,f1,f2,f3,9,s _ _ et}}) (au R3.same (λH Q s k=>{_,9,_,9,_,9,9,t3,_,9,ak.of (s _ _ et),λp hp=>k _ _ (ag.upd hp) ⟨p,f3,f2,f1,9,aa⟩})
    (au R3.same (λH Q s k=>⟨_,9,_,9,t3,_,9,ak.of (s _ _ et),λu hu=>⟨_,9,_,9,t3,_,9,ak.of (aj (s _ _ et) hu),λv hv=>.inr (.inl ⟨u,v,_,_,9,9,aj aa hv,aa,(by show 03<=sizeLine;decide),λp hp=>k _ _ (((ag.upd hu).trans (ag.upd hv)).trans (ag.upd hp)) ⟨p,f2,f3,f1,9,aa⟩⟩)⟩⟩) b8))) (by decide) ca _ (ag.refl _) λx dt bo hx=>?_
   let(lA,ls,9,hl,_,hJ):=hx
   let hj:Nat->St->Hp->Prop:=λi σ H7=>(∃v6 v7 v8,σ=[!.ref a,!.ref mA,!.ref iA,!.ref p3,!mv,!.ref qA,v6,v7,v8,!.ref rA,!.int c,!.int f1,!.ref t3,8,8,8])/\ag dt H7
   show ⟨lA,9,{_,ak.of hl},aT (K:=K) (a:=lA) (xs:=ls) hj
    {{_,_,_,9},ag.refl _} (λi σ H7 _ h=>ak.of (h.2 _ _ hl)) ?_ ?_⟩
   ·rintro i x σ cd hx ⟨⟨v6,v7,v8,rfl⟩,M⟩
    let(yA,j1,j2,j3,9,hy):=(hJ x (xA hx)).same M;have cp:=((co.trans bn).trans a6).trans (bo.trans M);have f4:=b2.trans cp;show {_,9,_,9,.inl {rA,_,0,_,9,9,ak.of (cp _ _ er),9,_,9,iA,o1,yA,Tr,qr Tr,j1,j2,j3,9,f4 _ _ bc,a3,(),cp _ _ E1,lj ..,hy,λdy a1=>{_,9,aO ?_}}};have eh:=cp.trans a1;show {_,9,_,9,.inl {rA,_,1,_,9,9,ak.of (eh _ _ er),9,_,9,mA,o2,yA,Tm,qr Tm,j1,j2,j3,9,(b2.trans eh) _ _ a2,bm,(),eh _ _ E2,lj ..,a1 _ _ hy,λdA aC=>{_,9,aO {{_,_,_,9},(M.trans a1).trans aC}}}}
   ·rintro σ cd ⟨⟨v6,v7,v8,rfl⟩,M⟩
    show {{_,_,_,_,_,_,9},bn.trans (a6.trans (bo.trans M))}
  rintro σ bb ⟨⟨v6,v7,v8,ac,ap,aA,rfl⟩,bn⟩;have f0:=fT.trans bn;have f9:=c6.trans bn;show ⟨(by show 05<=sizeLine;decide),λbA hM=>?_⟩;have a6:=ag.upd (o:=.lst (B9.map V.int)) hM;have eb:upd bb bA (.lst (B9.map V.int)) bA=!.lst (B9.map V.int):=aa;generalize eo:upd bb bA (.lst (B9.map V.int))=ca at a6 eb;have d1:upd bb bA (.lst [.int 2,.int 03,.int 04,.int 05,.int 1])=ca:=eo
  first | rw[d1] | skip
  dsimp only[L2.bN.sq];show ij (R:=RB) RB.same (au RB.same (λH Q s k=>⟨(by show 03<=sizeLine;decide),λr hr=>{z2,λt ht=>k _ _ ((ag.upd hr).trans (ag.upd ht)) (rb [0,1,2] 6 (by decide) (by decide) hr ht)}⟩) (au RB.same (λH Q s k=>⟨(by show 04<=sizeLine;decide),λr hr=>{z2,λt ht=>k _ _ ((ag.upd hr).trans (ag.upd ht)) (rb [0,1,2,03] 5 (by decide) (by decide) hr ht)}⟩) (au RB.same (λH Q s k=>⟨(by show 03<=sizeLine;decide),λr hr=>{z2,λt ht=>k _ _ ((ag.upd hr).trans (ag.upd ht)) (rb [03,0,2] 6 (by decide) (by decide) hr ht)}⟩)
   (au RB.same (λH Q s k=>⟨(by show 2<=sizeLine;decide),λr hr=>{z2,λt ht=>k _ _ ((ag.upd hr).trans (ag.upd ht)) (rb [0,1] 5 (by decide) (by decide) hr ht)}⟩) (au RB.same (λH Q s k=>⟨(by show 03<=sizeLine;decide),λr hr=>{z2,λt ht=>k _ _ ((ag.upd hr).trans (ag.upd ht)) (rb [0,1,04] 5 (by decide) (by decide) hr ht)}⟩) b8))))) (by decide) ca _ (ag.refl _) λx dt bo hx=>?_
  let(gA,gl,9,hg,_,hG):=hx;have ga:=(f9.trans a6).trans bo;have ct:=bo _ _ eb
  let hk:Nat->St->Hp->Prop:=λi σ H7=>(∃v6 v7 v8 v9 ac ap aA a7 a8,σ=[!.ref a,!.ref mA,!.ref iA,!.ref p3,!mv,!.ref qA,v6,v7,v8,v9,ac,ap,aA,!.ref bA,a7,a8])/\ag dt H7
  show ⟨gA,9,{_,ak.of hg},aT (K:=K) (a:=gA) (xs:=gl) hk
   {{_,_,_,_,_,_,_,_,_,9},ag.refl _} (λi σ H7 _ h=>ak.of (h.2 _ _ hg)) ?_ ?_⟩
  ·rintro i x σ cd hx ⟨⟨v6,v7,v8,v9,ac,ap,aA,a7,a8,rfl⟩,M⟩
   let(t,r,ps,d,9,ht,ch,hl,hd):=(hG x (xA hx)).same M;show {t,_,9,b9.of ht,9,_,_,9,_,_,9,9,?_};show ⟨_,9,(by show 1<=sizeLine;decide),λe he=>{_,9,_,_,9,.inl {_,ak.of (aj ch he),9},.inr {e,_,_,9,9,aa,?_,?_,?_,λf hf=>?_}}⟩
   ·omega
   ·rw[lj];omega +splitMinMax
   ·rw[lj,Ji,KS,Nat.one_mul]
    show Jh (am ())
   rw[lj,Ji,yk];have w:=(ag.upd (o:=.lst [.int 04]) he).trans (ag.upd (o:=.lst ((qc ps.length).map V.int)) hf);show λq dq hq bT _=>vY (w _ _ ch) aa hq bT λl1 l2 dy a1 o hI=>?_;have gz:=w.trans a1;show ⟨9,q,dq,_,9,o,9,_,9,q,l1,l2,bA,ps,qc ps.length,B9,9,hI,gz _ _ (M _ _ ct),(),(by unfold qc;rw[zg];omega),λdA aC=>⟨_,9,d,by rw[hd];rfl,{_,9,aO {{_,_,_,_,_,_,_,_,_,9},(M.trans gz).trans aC}}⟩⟩
  rintro σ cd ⟨⟨v6,v7,v8,v9,ac,ap,aA,a7,a8,rfl⟩,M⟩;have gd:=ga.trans M;have ej:=M _ _ ct;have z3:03<=sizeLine:=by decide
  dsimp only[L2.bN.sq];show ij (R:=RC) RC.same (au RC.same (λH Q s k=>{_,9,z3,λr hr=>k _ _ (ag.upd hr) (rc [-1,0,1] (by decide) 9 hr)}) (au RC.same (λH Q s k=>{z3,λr hr=>k _ _ (ag.upd hr) (rc [0,1,05] (by decide) 9 hr)})
   (au RC.same (λH Q s k=>{_,9,z3,λr hr=>k _ _ (ag.upd hr) (rc [1,-04,2] (by decide) 9 hr)}) (au RC.same (λH Q s k=>{_,9,z3,λr hr=>k _ _ (ag.upd hr) (rc [-05,1,2] (by decide) 9 hr)}) b8)))) (by decide) cd _ (ag.refl _) λx dy a1 hx=>?_
  let(em,hA,9,bd,_,hH):=hx;have gh:=gd.trans a1;have ek:=a1 _ _ ej
  let hm:Nat->St->Hp->Prop:=λi σ H7=>(∃v6 v7 v8 v9 ac ap aA a7 a8,σ=[!.ref a,!.ref mA,!.ref iA,!.ref p3,!mv,!.ref qA,v6,v7,v8,v9,ac,ap,aA,!.ref bA,a7,a8])/\ag dy H7
  show ⟨em,9,{_,ak.of bd},aT (K:=K) (a:=em) (xs:=hA) hm
   {{_,_,_,_,_,_,_,_,_,9},ag.refl _} (λi σ H7 _ h=>ak.of (h.2 _ _ bd)) ?_ ?_⟩
  ·rintro i x σ dA hx ⟨⟨v6,v7,v8,v9,ac,ap,aA,a7,a8,rfl⟩,aC⟩
   let(r,ps,9,ch,hl,hd):=(hH x (xA hx)).same aC;show ⟨_,9,(by show 1<=sizeLine;decide),λe he=>.inr ⟨e,03,_,9,9,aa,by decide,by decide,(by show 03<=sizeLine;decide),λf hf=>?_⟩⟩;rw[show (03:3).toNat=03 from 9,yk];have w:=(ag.upd (o:=.lst [.int 04]) he).trans (ag.upd (o:=.lst ((qc 03).map V.int)) hf);show λq dq hq bT _=>vY (w _ _ ch) aa hq bT λl1 l2 g6 ee o hI=>?_;have gP:=w.trans ee;show ⟨9,q,dq,_,9,o,9,_,9,q,l1,l2,bA,ps,qc 03,B9,9,hI,gP _ _ (aC _ _ ek),(),by decide,λg7 ef=>⟨5,by rw[hd];rfl,{_,9,aO {{_,_,_,_,_,_,_,_,_,9},(aC.trans gP).trans ef}}⟩⟩
  rintro σ dA ⟨⟨v6,v7,v8,v9,ac,ap,aA,a7,a8,rfl⟩,aC⟩;have gm:=gh.trans aC;show ⟨_,9,z3,λu hu=>⟨z3,λv hv=>λq dq hq bT _=>vY (ps:=[-1,0,1]) (qs:=[2,2,2]) (aj aa hv) aa hq bT λl1 l2 g6 ee o hI=>⟨9,q,dq,_,9,o,9,(by show 04<=sizeLine;decide),λt ht=>⟨q,l1,l2,t,[-1,0,1],[2,2,2],[04,05,1,03],9,hI.same (ag.upd ht),aa,by decide,by decide,λg7 ef=>⟨5,by rw[show mD [04,05,1,03] [-1,0,1] [2,2,2]=5 from by decide];rfl,{_,9,aO ?_}⟩⟩⟩⟩⟩;have gT:=(((ag.upd hu).trans (ag.upd hv)).trans ee).trans ((ag.upd ht).trans ef);have b3:=gm.trans gT;have kf:=(((a6.trans bo).trans M).trans a1).trans (aC.trans gT)
  have c2:=f0.trans kf;show {_,9,_,9,iA,a,Tr,ns,9,c2 _ _ bc,a3,(),b3.seq hS,hz,a0.same b3,λkl fz=>{_,9,aO ?_}};have c3:=c2.trans fz;have dd:=b3.trans fz;show {_,9,_,9,mA,a,Tm,ns,9,c3 _ _ a2,dd.seq hS,(),λy1 Tp kn fC _ hD eu=>?_};have b4:=dd.trans fC;have kF:Tp.length=ns.length:=by rw[eu.length_eq,es]
  have hT:Tp.Nodup:=eu.nodup_iff.mpr bm;show {_,9,y1,a,Tp,ns,9,hD,hT,(),b4.seq hS,hz,a0.same b4,λkp fE=>{_,9,aO ?_}};have c4:=(c3.trans fC).trans fE;have b5:=b4.trans fE;show {_,9,_,9,iA,a,Tr,ns,9,c4 _ _ bc,a3,(),b5.seq hS,hz,a0.same b5,λkt fI=>{_,9,bC ?_}};have dp:=b5.trans fI;show {_,9,_,9,mA,a,Tm,ns,9,(c4.trans fI) _ _ a2,dp.seq hS,(),λy2 Tq kv j4 _ hE ev=>?_};have dr:=dp.trans j4;have kH:Tq.length=ns.length:=by rw[ev.length_eq,es]
  show {_,9,y2,a,Tq,ns,9,hE,ev.nodup_iff.mpr bm,(),dr.seq hS,hz,a0.same dr,λkw _=>kQ _}
def DZ:Cd cc:=by
 intro f fd T F;have h:=@F1 f fd;unfold My.P My.w My.K My.mg My.base My.Z at h;show h T F
def F2:HV PySem.Challenge.rw_sidings_k08_answers_by_hand:=λ{w K mg base Z _ _} T F=>(Classical.byContradiction λn=>Classical.epsilon_spec (p:=λc=>¬ Cd c) {⟨w,K,mg,base,Z⟩,n} DZ:Cd ⟨w,K,mg,base,Z⟩) _ _ T F
end My
theorem PySem.Challenge.cw_sidings_k08_answers_by_hand_holds : PySem.Challenge.rw_sidings_k08_answers_by_hand.Holds :=
 My.early My.F2
#print axioms PySem.Challenge.cw_sidings_k08_answers_by_hand_holds
