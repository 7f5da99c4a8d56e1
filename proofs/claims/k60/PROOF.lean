import PyProof.Rows.All
import KE.KRevIter
import KE.KSortTup
import KE.KIsAll
import PySem.Challenge.RW_doubthall_k60_asks
set_option compiler.extract_closed false
set_option Elab.async false
set_option linter.all false
set_option tactic.hygienic false
set_option maxRecDepth 100000
noncomputable section
open Option renaming some->Z,none->O
open Bool renaming true->Y,false->U
local macro_rules|`(tactic| ext)=>`(tactic| walk_at "ev")
open PySem renaming wpAny_bind->aa,wpAny_pure->af,starEach->ah,wpAny->aE,Shared->aH,sizeLine->aV,Program->bh,wpAny_setState_of->br,backTo->bA,compareOp->bO,wpAny_call_entry->bS,attributeBase->bY,wpAny_holding->b6,World->cg,keywordEach->cn,binaryOp->cu,wpAny_newObj_type->cB,foldedSetIterable->cC,rawInt->cD,wpAny_loadPart'->cF,codeAny_builtin->cG,wpAny_callSpecial?_slot->cP,mem_of_lookup->cU,wpAny_askSetting->cV,bootBuiltins->cW,swapsWith->c7,cellsFrom->dh,wpAny_truthy_bool->du,mainGlobals->dB,Keyword->dD,backToKw->dF,Around->dI,wpAny_seqItems->dR,SetTable->dS,fits_of_scanBound->d0,intKind->eu,wpAny_field->ew,scanBound->eD,wpAny_pyIter_tuple->eG,FuncData->eT,wpAny_rule->fg,wpAny_mono->fh,IsPair->fk,wpAny_setEntries_of->fw,wpAny_setField->fy,wpAny_setField_rec->fE,codeAny_mono->fF,wpAny_passesOwn->fH,wpAny_storeSet_of->fO,wpAny_isInstance->fX,pushCells->fY,plainId_quiet->gf,bindArgs->gg,Scope->gk,codeAny->gv,call_meets->gx,getMethod->gy,wpAny_runValue->gE,wpAny_pyIter_list->gF,wpAny_eqBool_str->gP,assignEach->gQ,wpAny_newList->gU,wpAny_attempt->gV,wpAny_of_eq->gZ,sliceBounds->g9,sizeLine_eq->hh,relayAll->hG,strKind->ic,Builtin->io,pickOrder->ip,wpAny_Call_Name_kw->iq,typeIs_str->ir,pyNext->iu,IsZip->iH,wpAny_pyIter_enum->iN,standAt->iO,OsState->iR,callWith->iY,cLine->iZ,wpAny_typeOf->i8,wpAny_updateSeq->jh,wpAny_execs_nil->ji,pushCells_keeps->jk,Draws->jm,wpAny_updateSeq_pair->jt,wpAny_pyIter_revIter->ju,wpAny_fieldsOf->jv,NameKind->jB,PassesOwn->jJ,wpAny_onRaise->jQ,behindInMarks->jR,wpAny_forIn_array'->jY,sub_set_self->kh,callerA->ki,boot_len->kj,ElemsOf->kA,wpAny_setScan_of->kH,treeTable->kI,inplaceOp->kJ,Result->kO,wpAny_specialOf->lb,letOwnedTupleGo->lf,importedModules->lg,codeAny_of_tree->lh,Within->lm,wpAny_load->lN,wpAny_call->lO,typeLookup->lP,strKind_is->lQ,storeSet->lR,setAddHashedIn->lS,pyIter->lT,newFunctionEnv->lU,intKind_is->lV,intItems->lW,entryFor_alias->lY,GenState->ml,wpAny_comprehension_free->mM,swapsWithSole->mO,swappedStores->mP,setWalkUnseen->mQ,call->mU,Slot->mV,lastMarks->nu,wpAny_pyNext_range_end->nI,wpAny_pyNext_enum_endD->nJ,wpAny_pyIter_rangeiter->nK,wpAny_Call_method_late->nL,setAddHashed->nN,concat_meets->nQ,callType_new->nR,weight_type_call_type->n8,wpAny_loadName_local->ox,wpAny_letGo->oy,setEpoch->oz,entryFor->oA,codeAny_extend_loopS->oB,codeAny_call_builtin->oC,bindL->oE,bindC->oF
open PySem.W renaming Frag->ab,keepIn->b7,fnOf->cQ,boot_heap->dN,emptyDict->eH,findIn->eX,codeIn->fI,kia_one->fV,instObj->fW,callWith_K->fZ,cellsFrom_some->gm,plainGet->iA,methodCall_KW->iW,lookIn->i0,plainGet_of->ja,hasDictIn->jy,takerIn->j4,isFn->lp,kas_rev->mx,SharedT->mB,boot_drawn->mR,specialIn->ny,plainOver->nA,handedIn->nU,boot_toks->n9,readsIn->oj,makesIn->om,findCls->on,OpenLaw->oH
open And renaming intro->ac
open PySem.Heap renaming get?_push_of_some->ae,get?_push_size->ar,lt_size->aC,size_push->bp,SameBut->bN,get?_update_other->dy,get?_update_self->fN,IsTuple->kz
open List renaming length_map->ag,range->ai,mem_singleton->am,length_range->ao,mem_cons->ap,getElem?_eq_some_iff->ax,mem_cons_of_mem->ay,map_map->aB,getElem?_set_ne->aD,getElem?_eq_getElem->aG,getElem?_map->aI,mem_filter->aK,mem_map->aO,size_toArray->aP,mem_range->aR,mem_append->aS,map_cons->aT,length_cons->aU,all_eq_true->aX,length_append->a0,mem_cons_self->a7,getElem?_set_self->ba,length_filter_le->bf,getElem?_eq_none->bg,getElem_mem->bu,map_append->bw,mem_append_right->bx,append_nil->bB,lookup_cons->bC,idxOf_lt_length_iff->bH,nodup_cons->bL,mem_filterMap->bR,mem_of_getElem?->bV,append_assoc->bX,pairwise_cons->b0,length_eq_zero_iff->b4,filter_cons_of_neg->cm,getElem?_append_left->cx,drop_eq_getElem_cons->cy,length_take->cS,filterMap_cons_some->cY,mem_append_left->c9,length_drop->da,filter_cons_of_pos->de,any_eq_true->dg,take_of_length_le->di,getElem?_append_right->dm,getElem?_range->dr,length->dt,length_replicate->dw,filterMap_cons_none->dC,mem_iff_getElem->dH,nodup_append->dL,getElem?_replicate->dM,length_nil->dO,map_congr_left->dX,not_mem_nil->d6,getD_eq_getElem?_getD->d8,pairwise_iff_getElem->eF,reverse_cons->eL,pairwise_append->eM,mem_of_mem_drop->eN,ext_getElem?->eO,any_eq_false->eQ,all_map->eR,pairwise_lt_range->fq,map_nil->fr,getElem_idxOf->ft,drop_eq_nil_of_le->fu,getElem?_toArray->fC,pairwise_map->fD,perm_ext_iff_of_nodup->fJ,ext_getElem->fM,length_reverse->fQ,zip_cons_cons->f7,findIdx?_eq_some_iff_getElem->ge,replicate->gq,drop_zero->gs,singleton_append->gB,cons_append->gD,mem_of_mem_take->gI,lookup->gJ,range_succ->gL,forIn_cons->gM,foldl_cons->gN,any_map->gS,findIdx?_eq_none_iff->hX,foldl_append->ia,sum_cons->ig,length_filterMap_le->ij,pairwise_mergeSort->iE,mem_flatMap->iF,filter_cons->iG,zipIdx_map->iT,nil_append->iU,drop_left'->iV,take_append_drop->iX,reverse_reverse->i3,perm_cons_erase->i4,length_eraseIdx->i5,zipIdx_map_fst->jc,mergeSort_perm->jd,filter_eq_self->je,filterMap_cons->jf,getElem?_drop->jp,zip->jC,take_sublist->jD,reverse_nil->jK,map_reverse->jL,drop_length->jM,take_left'->j9,of_mem_zip->kb,mem_zipIdx_iff_getElem?->kc,take_left->ku,tail_cons->kv,nodup_iff_pairwise_ne->kw,lt_irrefl->kx,getElem?_eq_none_iff->kF,extract_eq_take_drop->kG,map_drop->kS,length_erase_of_mem->kT,findIdx?->kU,drop_one->kW,all_cons->kX,mem_singleton_self->k9,getElem?_cons_succ->la,zipWith->lA,range_succ_eq_map->lB,not_of_lt_findIdx->lC,length_singleton->lL,mem_erase_of_ne->me,map_id->mf,getElem?_of_mem->mh,filter->mj,take_succ_cons->mD,reverse_append->mE,length_zipWith->mF,set_cons_succ->m5,getElem?_take->m8,filter_append->m9,filterMap_map->na,contains_cons->nc,filter_congr->nC,zipIdx_cons->nZ,range'_succ->n0,le_antisymm->n3,isEmpty_iff->n4,getElem_inj->n5,zipIdx_nil->oo,take_range->op,sum_append->oq,length_set->ot
open Nat renaming le_refl->au,lt_of_lt_of_le->aF,ne_of_lt->aM,le_trans->aY,eq_of_testBit_eq->bK,lt_succ_of_lt->bQ,mod_lt->bU,zero_le->b9,le_of_lt->cb,testBit_and->ce,lt_irrefl->cp,two_pow_pos->cN,lt_succ_self->cR,le_succ->c8,pow_le_pow_right->dG,testBit_two_pow->eV,ne_of_gt->fo,lt_trans->fL,testBit_or->gn,lt_of_le_of_lt->hL,ge_two_pow_of_testBit->hV,lt_trichotomy->h7,testBit_two_pow_self->ie,zero_testBit->iC,le_add_right->iD,zero_add->iK,testBit_lt_two_pow->iL,and_le_left->iS,lt_or_ge->jz,le_of_succ_le->jA,exists_testBit_of_ne_zero->jW,testBit_xor->j6,strongRecOn->j7,min_eq_left->j8,lt_pow_two_of_testBit->kE,and_comm->lz,eq_of_beq_eq_true->lK,log2_lt->md,lt_or_gt_of_ne->mW,eq_zero_or_pos->mX,and_one_is_mod->mY,add_sub_cancel->mZ,succ_ne_self->nW,lt_of_not_le->nX,le_of_not_lt->nY
open PySem.PyData renaming strOk->aA,canLay0->fA,depth->f6,canLayAll0->kt,depthAll->lv
open PySem.Txt renaming join->aL,slice->cw,split->eU,partition->gh,startswith->gH
open Bool renaming and_eq_true->aQ,eq_iff_iff->cf,or_eq_true->dQ,false_eq_true->et,true_and->fU,false_ne_true->f8,not_eq_true'->gu,and_false->i6,and_eq_true_iff->i7,not_true->jn,or_true->jF,not_not->lG,or_eq_false_iff->mq
open Array renaming getElem?_eq_getElem->aW,length_toList->bE,getElem?_eq_none->cA,getElem?_eq_some_iff->cM,getElem?_toList->cX,size_map->fK,toList_append->gO,getD_eq_getD_getElem?->gT,all_eq_true'->hQ,append_assoc->jr,toList_push->jG,size_append->jH,toList_inj->jP,toList_extract->mr,mk->mu,replicate->ou
open Option.some renaming inj->bi
open Option renaming bind_some->bm,isSome_iff_exists->fS,map_some->gK,map_eq_some_iff->lw,getD_none->nV
open PySem.Builtin.Str renaming strSliceIndices->bF,strKind->cL,strSliceIndices->dY
open PySem.F renaming called_set->bI,slot_tuple_iterator_next->eI,plainAttrs_str->fm,plainAttrs_list->f9,plain_list_iadd->iB,args_tuple_iterator_next_1->jo,entry_tuple_iterator_next->js,entry_proto_collect->kg,sub_list_frozenset->ko,slot_str_partition->kq,args_object_init_2->kr,plain_extend_loop->kD,slot_tuple_index->kP,slot_list_insert->kQ,args_tuple_add_2->kR,slot_list_index->kY,entry_type_call->kZ,entry_tuple_add->k7,entry_list_iadd->k8,typeCall_set_1->lq,slot_tuple_add->lr,entry_set_init->lu,type_str_join->lH,slot_str_join->lI,slot_set_iter->lJ,sub_list_set->l7,slot_set_sub->l8
open PySem.SetTable renaming below->bP,sizeAbove->bT,grown->b8,eraseAt->gR,bits->gX,turns->iz,insertAt->iP,laid->jT,fresh->l0,fits->mS,fill->mT,fits_plain_off->nw
open Classical renaming byContradiction->b5,propDecidable->e9,choose_spec->gC,epsilon_spec->lD,not_imp->nG,epsilon->nH,choose->n6
open PySem.Str renaming length->cE,ofString->nS
open PyProof.Rows renaming callWith_type1->cH,seqObj->c6,envOfC->fR,IntsAre->jq,AllBare->jX,entry_list_sort->jZ,slot_list_sort->kB,args_list_sort->kC,StrsAre->kK,listUpdate_at->lc,plain_sorted->mw,entry_sorted->my,args_sorted1->mz,kind_sorted->nO
open PySem.NameKind renaming cell->cI
open PySem.Heap.SameBut renaming update->cK,refl->d5
open ForInStep renaming yield->cO
open PySem.Obj renaming mapSeq->cT,putSet->jb
open Int renaming toNat_natCast->dn,zero_lt_one->kd,fdiv_eq_ediv_of_nonneg->ky,natCast_nonneg->nh
open PySem.Builtin renaming bitNot->dA,bitOr->gY,bitAnd->jE
open PySem.Builtin.SmallTypes renaming nextOf->dE,ownedTupleIsFree->eB,ownedTupleHandOut->jN
open PySem.Builtin.List renaming listTooLong->dP,listExtendWith->fP,listSameRef->gt,listLengthHint->im,listFitsIndex->mn
open PyProof.Rows.F renaming plain_set_update_loop->dU,entry_set_update_loop->dW
open PySem.Value renaming ref->d4,none->fj,bool->fG,isStrOf->gW,int->jI,str->nv
open False renaming elim->d9
open List.Pairwise renaming filter->eS,sublist->lM
open PySem.Builtin.Range renaming rangeSize->fB
open List.Perm renaming eq_of_pairwise->fT
open PySem.Calls renaming call_function_entry->ga,callWith_builtin->jg,Name_function_global->mm,evalArgs_plain->oI
open PySem.StrLaws renaming lt_cons_cons->hJ,lt_nil_nil->iy,subAt_eq->kL,strSub_toList->og,glued_eq_join->oh
open PySem.Around renaming under_plainId->hU
open PySem.Builtin.Int renaming intBits->ib
open PySem.W.KasT renaming kasWp_bind->ik
open True renaming intro->iJ
open Nat.succ renaming inj->iM
open PySem.SetTable.below renaming go->iQ
open ToString renaming toString->jj
open Sum renaming inl->jx,inr->li
open PySem.BindsTo renaming of_defaults->jO
open PySem.Shared renaming TypeIs->jS,heap->oG
open PySem.AutoSeq1 renaming sub_tuple_list->jU,sub_list_tuple->jV
open PySem.SeqAt.EqAt renaming of_refs->j3,same->lj
open PySem.SeqAt renaming ne_of_list_tuple->j5,EqAt->l6
open PySem.Code renaming quiet_builtin->ke
open PySem.Builtin.Frozenset renaming differenceUpdate->kf,updateFrom->lE,difference->lF
open LawfulBEq renaming eq_of_beq->lX
open PySem.Walks renaming list->lZ
open Prod renaming fst->l9
open PySem.W.Fast renaming tw14364793385576792824->mG,tw11892475500146522536->mH,tw10156331382660048174->mI,te14364793385576792824->mJ,te11892475500146522536->mK,te10156331382660048174->mL,tw9446332074065402090->ni,tw6613529449190102663->nj,te6613529449190102663->nk
open PySem.Builtin.Tuple renaming tupleExact->nq
abbrev aw:=@if_pos
abbrev aN:=@if_neg
abbrev a5:=@decide_eq_false
abbrev a8:=@decide_eq_true
abbrev a9:=@beq_iff_eq
abbrev bc:=@beq_eq_false_iff_ne
abbrev bD:=@of_decide_eq_true
abbrev bM:=@decide_eq_true_iff
abbrev bW:=@beq_self_eq_true
abbrev gG:=@if_false
abbrev hZ:=@decide_eq_true_eq
abbrev iw:=@or_false
abbrev ix:=@decide_eq_false_iff_not
abbrev iI:=@if_true
abbrev i9:=@ne_true_of_eq_false
abbrev jw:=@bne_self_eq_false
namespace HD
open PySem PySem.W PySem.Calls PyProof.Rows
noncomputable def run(l ok:Thread->Bool)(st:mB->Thread->Option (mB×Thread)):Nat->mB->Thread->Option mB
 |0,_,_=>O
 | n+1,s,t=>match l t with
  |true=>Z s
  | false=>match ok t with
   |false=>O
   | true=>match st s t with
    |some x=>run l ok st n x.1 x.2
    |none=>O
set_option tactic.hygienic true in
def BV{l:String->Option io}{p:bh}{w:cg}{m:Nat}{an:Option Value}:∀(n:Nat)(s r:mB)(t:Thread),
  run through (stepOk m an) (stepT (denote l) p w) n s t=Z r->topRun l p w m an n s.abs t=Z r.abs:=by
 intro n;induction n with
 |zero=>intro s r t h;cases h
 |succ n j =>
  intro s r t h;simp only[run]at h;simp only[topRun];split at h
  .next e=>cases h;rw[e]
  .next e =>
   rw[e];split at h
   .cases h
   .next e2 =>
    rw[e2];split at h
    .next x e3=>rw[stepT_spec (s':=x.1) (t':=x.2) e3];exact j _ _ _ h
    .cases h
def Hv(l:List Obj):BT:=(l.foldl (λx o=>(x.1.ins x.2 o,x.2+1)) (BT.nil,0)).1
def Sf(w:cg)(os:iR):mB:=⟨Hv (dN w.params).objs.toList,11,(dN w.params).life,mu [],mR,n9,os⟩
def BW(w:cg)(os:iR):(Sf w os).abs=⟨dN w.params,mu [],mR,n9,os⟩:=by
 have h:∀P:Params,absHeap (Hv (dN P).objs.toList) 11 (dN P).life=dN P:=λP=>by kernel_rfl
 show aH.mk (absHeap (Hv (dN w.params).objs.toList) 11 (dN w.params).life) _ _ _ _=_;rw[h];rfl
def only(p:bh)(st:Stmt):bh:={ p with main:={ p.main with body:=[st] } }
def BB(p:bh):List Str:=(p.main.scope.names.map (·.1)).filter λn => !(n==("law":Str))
def Uu(p:bh)(P:Params)(h:Heap)(s:aH):Bool :=
 staticsOk (lg p.main.body) (dN P) h&&namesBound p h&&gensDone s&&laidKept (dN P) h
def BX(p q:bh)(as:List Addr)(w:cg)(os:iR)(N:Nat) :=
 (run through (nj 11 (Z (.ref 6))) (mI (mH mG) p w) N (Sf w os) (topStub p)).map λs =>
  (Uu p w.params s.abs.heap s.abs,Fast.tw4187177175401517315 q (BB p) (lg p.main.body) (λ_=>Y) Y s.abs,as.all λa=>(s.abs.heap.get? a).isSome)
def vr(p:bh)(N:Nat)(w:cg):iR:=match fencedOpening kI p w N with
 |some s=>s.os
 |none=>{}
def Uv(p:bh)(N:Nat)(w:cg)(os:iR):Heap:=match run through (nj 11 (Z (.ref 6))) (mI (mH mG) p w) N (Sf w os) (topStub p) with
 |some s=>s.abs.heap
 |none=>{}
def MM(p:bh)(as:List Addr)(N:Nat)(w:cg)(os:iR):Frag:=as.map λa=>(a,((Uv p N w os).get? a).getD ⟨.none,O,.plain,#[]⟩)
def left{p q:bh}{as:List Addr}{N:Nat}(e:opening p=plainProg p.main.scope.names)(f:∀s,fenceModules? p s=Z s)(B:Nat.ble 600 N=Y)(one:∀(w:cg) (os:iR),BX p q as w os N=Z (Y,openGood q (BB p),Y)) :
  LeftO p q (BB p) (λ_=>Y) (λs=>as.map s.heap.get?) (λw=>(MM p as N w (vr p N w)).map λx=>Z x.2) N:=by
 intro w;have o:=boot_open (p:=p) (N:=N) e B f w;match hf:fencedOpening kI p w N with
 |none=>rw[hf]at o;cases o
 |some ⟨h,D,d,k,os⟩ =>
  rw[hf]at o;have o2:=bi o;have E:h=dN w.params:=congrArg l9 o2;have H:D=mu []:=congrArg (λx=>x.2.1) o2;have I:d=mR:=congrArg (λx=>x.2.2.1) o2;have J:k=n9:=congrArg (λx=>x.2.2.2) o2;have r:=one w os;unfold BX at r;rw[<-nk,<-mL,<-mK,<-mJ,<-Fast.te4187177175401517315]at r;match hr:run through (stepOk 11 (Z (.ref 6))) (stepT (denote kI) p w) N (Sf w os) (topStub p) with
  |none=>rw[hr]at r;cases r
  |some s =>
   rw[hr]at r;have j:=bi r;have l1:=congrArg l9 j;have l2:=congrArg (λx=>x.2.1) j;have L:=congrArg (λx=>x.2.2) j;have t:=BV N _ _ _ hr;rw[BW]at t;subst E H I J;have z:(dN w.params).isNs dB=Y/\(dN w.params).objs.size=11/\(dN w.params).nsMap dB "__annotations__"=Z (.ref 6):=⟨by kernel_rfl,by kernel_rfl,by kernel_rfl⟩
   have u:topFrom kI p w N ⟨dN w.params,mu [],mR,n9,os⟩=Z s.abs:=by
    simp only[topFrom,z.1,z.2.1,z.2.2,t];have l:(staticsOk (lg p.main.body) (dN w.params) s.abs.heap&&namesBound p s.abs.heap&&gensDone s.abs&&laidKept (dN w.params) s.abs.heap)=Y:=l1;simp only[bm,l];rfl
   have v:openEnds kI p w N=Z s.abs:=by
    delta openEnds;rw[hf];exact u
   have ho:vr p N w=os:=by
    delta vr;rw[hf]
   subst ho;rw[v];have M:Uv p N w (vr p N w)=s.abs.heap:=by
    delta Uv;rw[<-nk,<-mL,<-mK,<-mJ,hr]
   refine congrArg Z (Prod.ext l2 ?_);show as.map s.abs.heap.get?=(MM p as N w (vr p N w)).map λx=>Z x.2;delta MM;rw[M,aB];refine dX λa zy=>?_;obtain⟨o,e⟩:=fS.mp (aX.mp L a zy);show s.abs.heap.get? a=Z ((s.abs.heap.get? a).getD _);rw[e];rfl
end HD
namespace K60
local macro_rules|`(tactic| walk_at "s")=>`(tactic| exact⟨rfl,rfl,rfl,by decide+kernel,rfl,by decide+kernel,by decide+kernel⟩)
open PySem PySem.W PyProof.Rows HD
def top(i:Nat):Stmt:=PySem.Challenge.pw_doubthall_k60_asks.main.body.getD i (.Pass ⟨0,0,0,0⟩)
noncomputable def ka:List Addr:=[2,3,25,26,32,33,39,40,44,45,49,50,54,55,61,62,68,69,75,76,82,83,89,90,96,97,101,102,106,107,113,114,120,121,125,126,132,133,139,140,146,147,153,154,160,161,167,168,169,173,174,308,309,315,316,320,321,327,328,341,342,355,356,358,359,376,377,383,384,386,387,402,403,407,408,410,411,426,427,433,434,436,437,452,453,455,456,462,463,464,468,469,475,476,480,481,482,488,489,495,496,502,503,507,508,514,515,521,522,526,527,531,532,536,537,541,542,546,547,553,554,560,561,565,566,572,573,577,578,584,585,591,592,598,599,603,604,610,611,615,616,622,623,629,630,634,635,639,640,644,645,660,666,667,673,674,685,686,688,689,699,700,706,707,713,714,720,721,727,728,732,733,737,738,744,745,751,752,756,757,761,762,768,769,775,776,782,783,787,788,792,793]
@[irreducible] def kk:=MM PySem.Challenge.pw_doubthall_k60_asks ka 6343
theorem h_said:ni PySem.Challenge.rw_doubthall_k60_asks=Y:=by kernel_rfl
def h_one(w:cg)(os:iR):BX PySem.Challenge.pw_doubthall_k60_asks (only PySem.Challenge.pw_doubthall_k60_asks (top 109)) ka w os 6343=Z (Y,openGood (only PySem.Challenge.pw_doubthall_k60_asks (top 109)) (BB PySem.Challenge.pw_doubthall_k60_asks),Y):=by kernel_rfl
end K60
namespace L2
open PySem PySem.Spec PyProof.Rows
abbrev vZ:=Sum Int Str
def Gr:vZ->Value->Bool
 |.inl k,v=>Value.isInt k v
 |.inr x,v=>gW x v
noncomputable def Uw(w:cg):vZ->Int
 |.inl k=>hashInt k
 |.inr x=>hashStr w x
theorem QR:∀{k:vZ}{v:Value},Gr k v=Y->(∃i t,k=jx i/\v=jI i t)\/(∃x t,k=li x/\v=nv x t)
 |.inl i,v,h=>by
  obtain⟨t,e⟩:=Value.isInt_shape h;exact .inl ⟨i,t,rfl,e⟩
 |.inr x,v,h=>by
  obtain⟨t,e⟩:=Value.isStrOf_shape h;exact .inr ⟨x,t,rfl,e⟩
def Hw a b:decide ((jx a:vZ)=jx b)=(a==b):=by
 by_cases e:a=b
 .subst e;simp
 .have h:¬(jx a:vZ)=jx b:=λq=>e (jx.inj q);rw[a5 h];exact(bc.mpr e).symm
def Hx a b:decide ((li a:vZ)=li b)=decide (a=b):=by
 grind
def Ux a b:decide ((jx a:vZ)=li b)=U:=by grind
def Uy a b:decide ((li a:vZ)=jx b)=U:=by grind
def Uz prog w:PySem.KeyKind prog w vZ where
 is:=Gr
 hash:=Uw w
 inj:=λv a b D B=>by
  rcases QR D with⟨i,t,rfl,rfl⟩|⟨x,t,rfl,rfl⟩
  .rcases QR B with⟨j,u,rfl,e⟩|⟨y,u,rfl,e⟩
   .injection e with e1 _;rw[e1]
   .exact nomatch e
  .rcases QR B with⟨j,u,rfl,e⟩|⟨y,u,rfl,e⟩
   .exact nomatch e
   .injection e with e1 _;rw[e1]
 byValue:=λk v h=>by
  rcases QR h with⟨i,t,rfl,rfl⟩|⟨x,t,rfl,rfl⟩<;>rfl
 pyHash:=λl h=>by
  rcases QR l with⟨i,t,rfl,rfl⟩|⟨x,t,rfl,rfl⟩
  .exact wpAny_pyHash_int h
  .exact wpAny_pyHash_str h
 eqBool:=λE l h=>by
  rcases QR E with⟨i,t,rfl,rfl⟩|⟨x,t,rfl,rfl⟩
  .rcases QR l with⟨j,u,rfl,rfl⟩|⟨y,u,rfl,rfl⟩
   .rw[Hw]at h;exact wpAny_eqBool_int h
   .exact l6.int_str i t y u _ _ _ _ h
  .rcases QR l with⟨j,u,rfl,rfl⟩|⟨y,u,rfl,rfl⟩
   .exact l6.str_int x t j u _ _ _ _ h
   .rw[Hx]at h;exact gP h
 «strs»:=λk x t v h=>by
  rcases QR h with⟨i,u,rfl,e⟩|⟨y,u,rfl,e⟩
  .exact nomatch e
  .injection e with e1 _
   subst e1;cases v<;>rfl
inductive V where
 |non | bl (b:Bool) | int (i:Int) | str (x:Str) | byt (b:Array UInt8) | flt (b:UInt64) | ref (a:Addr) | ty (n:String)
 deriving DecidableEq
def pq:V->Value->Prop
 |.non,u=>u=fj
 |.bl b,u=>u=fG b
 |.int i,u=>∃t,u=jI i t
 |.str x,u=>∃t,u=nv x t
 |.byt b,u=>∃t,u=Value.bytes b t
 |.flt b,u=>∃t,u=Value.float b t
 |.ref a,u=>u=d4 a
 |.ty n,u=>u=Value.type n
abbrev o4:List V->List Value->Prop:=Paired pq
def o4.length(r:o4 xs us):xs.length=us.length:=Paired.length r
theorem o4.get:∀{xs:List V}{us:List Value}{i:Nat}{x:V},o4 xs us->xs[i]?=Z x->∃u,us[i]?=Z u/\pq x u
 |_,_,_,_,.nil,e=>by simp at e
 |_,_,0,_,.cons r _,e=>by simp at e;subst e;exact⟨_,rfl,r⟩
 |_,_,i+1,x,.cons _ t,e=>by
  obtain⟨u,h1,h2⟩:=o4.get t (by simpa using e);exact⟨u,by simpa using h1,h2⟩
theorem o4.set{x:V}{u:Value}(r:pq x u):∀{xs:List V}{us:List Value}(i:Nat),o4 xs us->o4 (xs.set i x) (us.set i u)
 |_,_,_,.nil=>.nil
 |_,_,0,.cons _ t=>.cons r t
 |_,_,i+1,.cons q t=>.cons q (o4.set r i t)
def o4.append:∀{xs ys:List V}{us ws:List Value},o4 xs us->o4 ys ws->o4 (xs++ys) (us++ws):=by
 intro xs ys us ws h s;induction h with
 |nil=>exact s
 |cons r t j=>exact .cons r j
theorem o4.take:∀{xs:List V}{us:List Value} n,o4 xs us->o4 (xs.take n) (us.take n)
 |_,_,0,_=>.nil
 |_,_,_+1,.nil=>.nil
 |_,_,n+1,.cons r t=>.cons r (o4.take n t)
theorem o4.drop:∀{xs:List V}{us:List Value}(n:Nat),o4 xs us->o4 (xs.drop n) (us.drop n)
 |_,_,0,r=>r
 |_,_,_+1,.nil=>.nil
 |_,_,n+1,.cons _ t=>o4.drop n t
def tu:Option V->Option Value->Prop
 |some v,Z u=>pq v u
 |none,O=>True
 |_,_=>False
def KV{κ:Type}:List (κ×V)->List (κ×Value)->Prop:=Paired λp q=>p.1=q.1/\pq p.2 q.2
def kV:vZ->V
 |.inl i=>.int i
 |.inr x=>.str x
inductive HO where
 |lst (xs:List V)
 |tup (xs:List V)
 |dK (kvs:List (vZ×V)) | dT (kvs:List (List vZ×V))
 |set (S:Int->Bool) (n:Nat)
 |ins (C dx:Addr) (fs:List (Str×V))
 |own (x:Addr)
 |xd (fs:List (Str×V))
 |met (f x:Addr)
 |rng (lo hi:Int)
 |frz (o:Obj) (u:HO)
 |tbl (ps:Array Value)
 |ext (φ:Heap->Prop)
abbrev Hp:=Addr->Option HO
def pf(H:Hp)(a:Addr)(o:HO):Hp:=λb=>if b=a then Z o else H b
def Qf:pf H a o a=Z o:=by delta pf;grind
def Qh(h:b≠a):pf H a o b=H b:=by delta pf;grind
def Qg{H:Hp}(h:H a=Z o)(l:H b=O):a≠b:=by
 grind
section
def YR(h:Heap)(a:Addr)(items:Array Value)(xs:List V):Prop:=∃o,h.get? a=Z o/\o.cls = .type "tuple"/\(o.dict=O\/∃i y,xs=[V.int i,y])/\∃n,o.data = .seq items n
def YR.is(x:YR h a items xs):IsTup h a items:=let ⟨o,h1,h2,_,h3⟩:=x;⟨o,h1,h2,h3⟩
def YR.new(h:Heap) items xs:YR (h.push { cls := .type "tuple",data := .seq items }) h.objs.size items xs:=⟨_,ar _ rfl,rfl,.inl rfl,_,rfl⟩
def YR.pair(x:IsTup h a items):YR h a items [V.int i,y]:=let ⟨o,h1,h2,h3⟩:=x;⟨o,h1,h2,.inr ⟨i,y,rfl⟩,h3⟩
variable(P:bh)(w:cg) in noncomputable def ObjOk (H:Hp) (h:Heap) (a:Addr):HO->Prop
 |.lst xs=>xs.length<=aV/\∃its n,o4 xs its/\h.get? a=Z { cls := .type "list",data := .seq its.toArray n }
 |.tup xs=>xs.length<=aV/\∃its ,o4 xs its/\YR h a its.toArray xs
 |.dK kvs=>kvs.length<=aV/\(a==sysModules)=U/\∃vs,KV kvs vs/\h.DictOf (Uz P w) a vs
 | .dT kvs=>kvs.length<=aV/\(a==sysModules)=U/\∃xs ,
   Paired (λp q=>p.1=q.1/\H q.2.1=Z (.tup (p.1.map kV))/\pq p.2 q.2.2) kvs xs /\
   ∃o es ep,h.get? a=Z o/\o.ExactDict/\o.data = .dict es ep/\es.toList=xs.map (entryOfKey (tupleKind (Uz P w)))/\(xs.map (·.1)).Nodup
 |.set S n=>h.SetOf (eu P w) a S n
 | .ins C dx fs=>H dx=Z (.own a)/\fs.length<=1000/\dx≠a/\h.get? a=Z (fW C dx) /\
   ∃mA,h.Ns1 dx mA/\(∀f,tu (fs.lookup f) (mA f))/\lm mA (fs.map (·.1))
 |.own _=>∃o,h.get? a=Z o
 |.xd fs=>∃mA,h.Ns1 a mA/\∀f,tu (fs.lookup f) (mA f)
 |.rng lo hi=>∃t u v,h.get? a=Z { cls := .type "range",data := .fields #[.int lo t,.int hi u,.int 1 v] }
 |.frz o u=>h.get? a=Z o/\ObjOk H h a u
 |.tbl ps=>h.get? a=Z { cls := .none,data := .fields ps }
 |.met f x=>h.get? a=Z (PySem.W.methodObj (.ref f) (.ref x))
 |.ext φ=>φ h/\(∃o,h.get? a=Z o)/\∀h1 h2 ,φ h1->(∀o,h1.get? a=Z o->h2.get? a=Z o)->φ h2
def sf(P:bh)(w:cg)(H:Hp)(h:Heap):Prop:=∀a o,H a=Z o->ObjOk P w H h a o
end
section
def ObjOk.lt{P:bh}{h:Heap}(x:ObjOk P w H h a o):a<h.objs.size:=by
 cases o with
 |lst xs=>obtain⟨_,_,_,_,e⟩:=x;exact aC e
 |tup xs=>obtain⟨_,_,_,p⟩:=x;exact p.is.lt
 |set S n=>obtain⟨o,_,_,_,e,_⟩:=x;exact aC e
 |ins C l fs=>obtain⟨_,_,_,e,_⟩:=x;exact aC e
 |own y=>obtain⟨_,e⟩:=x;exact aC e
 |xd fs=>obtain⟨_,⟨_,_,_,e,_⟩,_⟩:=x;exact aC e
 |rng lo t=>obtain⟨_,_,_,e⟩:=x;exact aC e
 |frz B u=>obtain⟨e,_⟩:=x;exact aC e
 |tbl ps=>exact aC (x)
 |met f y=>exact aC (x)
 |ext D=>obtain⟨_,⟨_,e⟩,_⟩:=x;exact aC e
 |_=>obtain⟨_,_,_,_,o,_,_,e,_⟩:=x;exact aC e
def Paired.mapP:∀{l₁:List α}{l:List B},Paired F l₁ l->(∀a b,F a b->G a b)->Paired G l₁ l:=by
 intro l₁ l h f;induction h with
 |nil=>exact .nil
 |cons r t j=>exact .cons (f _ _ r) j
def ObjOk.stay{P:bh}{h:Heap}{L:Heap}(x:ObjOk P w H h a o)(k:∀b u,(b=a\/H b=Z (.own a))->h.get? b=Z u->L.get? b=Z u)(ho:∀b,H b=Z (.own a)->M b=Z (.own a))(zx:∀b xs,H b=Z (.tup xs)->M b=Z (.tup xs)):ObjOk P w M L a o:=by
 induction o with
 |lst xs=>obtain⟨z,D,n,r,e⟩:=x;exact⟨z,D,n,r,k _ _ (.inl rfl) e⟩
 |tup xs=>obtain⟨z,D,r,j,e,c⟩:=x;exact⟨z,D,r,j,k _ _ (.inl rfl) e,c⟩
 |dK E=>obtain⟨z,y,vs,r,j,l,B,e,c⟩:=x;exact⟨z,y,vs,r,j,l,B,k _ _ (.inl rfl) e,c⟩
 |dT E =>
  obtain⟨z,y,xs,r,j,l,B,e,c⟩:=x;exact⟨z,y,xs,Paired.mapP r λp q z=>⟨z.1,zx _ _ z.2.1,z.2.2⟩,j,l,B,k _ _ (.inl rfl) e,c⟩
 |set S n=>obtain⟨j,l,B,t,e,c⟩:=x;exact⟨j,l,B,t,k _ _ (.inl rfl) e,c⟩
 |ins C zw fs =>
  obtain⟨d,z,ne,e,I,⟨J,l,B,e2,c⟩,r⟩:=x;exact⟨ho _ d,z,ne,k _ _ (.inl rfl) e,I,⟨J,l,B,k _ _ (.inr d) e2,c⟩,r⟩
 |own y=>obtain⟨j,e⟩:=x;exact⟨j,k _ _ (.inl rfl) e⟩
 |xd fs=>obtain⟨I,⟨J,l,B,e,c⟩,r⟩:=x;exact⟨I,⟨J,l,B,k _ _ (.inl rfl) e,c⟩,r⟩
 |rng lo zy=>obtain⟨t,u,v,e⟩:=x;exact⟨t,u,v,k _ _ (.inl rfl) e⟩
 |frz j u T=>obtain⟨e,q⟩:=x;exact⟨k _ _ (.inl rfl) e,T q⟩
 |tbl ps =>
  have e :=x;exact k a _ (.inl rfl) e
 |met f y =>
  have e :=x;exact k a _ (.inl rfl) e
 |ext φ=>obtain⟨p,⟨o,e⟩,st⟩:=x;exact⟨st _ _ p λo q=>k _ _ (.inl rfl) q,⟨o,k _ _ (.inl rfl) e⟩,st⟩
def sf.lt{P:bh}{h:Heap}(x:sf P w H h)(e:H a=Z o):a<h.objs.size:=(x a o e).lt
def sf.fresh{P:bh}{h:Heap}(x:sf P w H h)(e:h.objs.size<=a):H a=O:=by
 cases q:H a with
 |none=>rfl
 |some u=>exact absurd (aF (x.lt q) e) (cp _)
def sf.kept{P:bh}{h:Heap}{l:Heap}(x:sf P w H h)(k:∀b u,h.get? b=Z u->l.get? b=Z u):sf P w H l:=λa o e =>
 (x a o e).stay (λb u _ q=>k b u q) (λ_ q=>q) λ_ _ q=>q
def sf.laid{P:bh}{h:Heap}{l:Heap}(x:sf P w H h)(k:∀b u,h.get? b=Z u->l.get? b=Z u)(B:h.objs.size<=a)(new:ObjOk P w (pf H a o) l a o):sf P w (pf H a o) l:=λb u e=>by
 have j:=x.fresh B;by_cases t:b=a
 .subst t;rw[Qf]at e;cases e;exact new
 .rw[Qh t]at e;exact(x b u e).stay (λc v _ q=>k c v q) (λc q=>by rw[Qh (Qg q j)];exact q) λc xs q=>by rw[Qh (Qg q j)];exact q
end
def Rd(H:Hp)(a:Addr)(u:HO):Prop:=H a=Z u\/∃o,H a=Z (.frz o u)
def Rd.ok(r:Rd H a u)(x:sf P w H h):ObjOk P w H h a u:=by
 rcases r with r|⟨o,r⟩
 .exact x a u r
 .obtain⟨_,q⟩:=x a _ r;exact q
def Sg:Option HO->Prop
 |some (.lst _)=>True
 |some (.dK _)=>True
 |some (.dT _)=>True
 |some (.set _ _)=>True
 |some (.ins _ _ _)=>True
 |some (.ext _)=>True
 |_=>False
section
def sf.write{P:bh}{h:Heap}{B:Heap}(ok:sf P w H h)(D:Sg (H x))(he:e=x\/H e=Z (.own x))(k:∀b u,b≠e->h.get? b=Z u->B.get? b=Z u)(I:∃u,B.get? e=Z u)(new:ObjOk P w (pf H x L) B x L):sf P w (pf H x L) B:=λb u q=>by
 have l:∀c y,H c=Z (.own y)->c≠x:=λc y r z=>by subst z;rw[r]at D;exact D
 have t:∀c xs,H c=Z (.tup xs)->c≠x:=λc xs r z=>by subst z;rw[r]at D;exact D
 by_cases E:b=x
 .subst E;rw[Qf]at q;cases q;exact new
 .rw[Qh E]at q;by_cases j:b=e
  .have J:H b=Z (.own x):=by
    rcases he with z | z
    .exact absurd (j.trans z) E
    .rw[j];exact z
   rw[q]at J;cases J;obtain⟨v,M⟩:=I;exact⟨v,by rw[j];exact M⟩
  .refine(ok b u q).stay (λc v hc r=>k c v ?_ r) (λc r=>by rw[Qh (l c b r)];exact r) λc xs r=>by rw[Qh (t c xs r)];exact r
   rcases hc with rfl | hc
   .exact j
   .rintro rfl;rcases he with z | z
    .exact l c b hc z
    .rw[hc]at z;cases z;exact E rfl
end
structure Un (fs ex:List Addr) (H H':Hp) (h h':Heap):Prop where
 keep:∀b o,h.get? b=Z o->H b=O->b∉fs->b∉ex->h'.get? b=Z o
 slot:∀b o,h.get? b=Z o->H b=O->b∈fs->b∉ex->∃sl,h'.get? b=Z { o with slots:=sl }
 free:∀b o,h.get? b=Z o->H b=O->b∉ex->H' b=O
 there:∀b o,h.get? b=Z o->b∉ex->∃o',h'.get? b=Z o'
 tups:∀b xs,H b=Z (.tup xs)->H' b=Z (.tup xs)
 frzs:∀b o u,H b=Z (.frz o u)->H' b=Z (.frz o u)
 tbls:∀b ps,H b=Z (.tbl ps)->∃pX,H' b=Z (.tbl (ps++pX))
section
def Un.any(u:Un fs ex H D h h1){b:Addr}{l:Obj}(q:h.get? b=Z l)(n:H b=O)(B:b∉ex):∃sl,h1.get? b=Z { l with slots:=sl }:=by
 by_cases j:b∈fs
 .exact u.slot b l q n j B
 .exact⟨l.slots,u.keep b l q n j B⟩
def Un.trans(a:Un fs ex H B h h1)(b:Un fs ex B D h1 h2):Un fs ex H D h h2 where
 keep:=λc j q n hc l=>b.keep c j (a.keep c j q n hc l) (a.free c j q n l) hc l
 slot:=λc j q n hc l=>by
  obtain⟨sl,e1⟩:=a.slot c j q n hc l;obtain⟨t,e2⟩:=b.slot c _ e1 (a.free c j q n l) hc l;exact⟨t,e2⟩
 free:=λc j q n l=>by
  obtain⟨u,e1⟩:=a.there c j q l;exact b.free c u e1 (a.free c j q n l) l
 there:=λc j q l=>by
  obtain⟨u,e1⟩:=a.there c j q l;exact b.there c u e1 l
 tups:=λc xs q=>b.tups c xs (a.tups c xs q)
 frzs:=λc j xs q=>b.frzs c j xs (a.frzs c j xs q)
 tbls:=λc ps q=>by
  obtain⟨E,e1⟩:=a.tbls c ps q;obtain⟨I,e2⟩:=b.tbls c _ e1;exact⟨E++I,by rw[e2,jr]⟩
def Un.kept(k:∀b u,h.get? b=Z u->l.get? b=Z u):Un fs ex H H h l :=
 ⟨λb j q _ _ _=>k b j q,λb j q _ _ _=>⟨j.slots,k b j q⟩,λ_ _ _ n _=>n,λb j q _=>⟨j,k b j q⟩,λ_ _ q=>q,λ_ _ _ q=>q,λ_ ps q=>⟨#[],by rw[q];simp⟩⟩
def Un.refl:Un fs ex H H h h:=Un.kept λ_ _ q=>q
def Un.laid(k:∀b u,h.get? b=Z u->B.get? b=Z u)(D:h.objs.size<=a)(l:H a=O):Un fs ex H (pf H a o) h B where
 keep:=λb u q _ _ _=>k b u q
 slot:=λb u q _ _ _=>⟨u.slots,k b u q⟩
 free:=λb u q n _=>by rw[Qh (aM (aF (aC q) D))];exact n
 there:=λb u q _=>⟨u,k b u q⟩
 tups:=λb xs q=>by rw[Qh (Qg q l)];exact q
 frzs:=λb u xs q=>by rw[Qh (Qg q l)];exact q
 tbls:=λb ps q=>⟨#[],by rw[Qh (Qg q l),q];simp⟩
def Un.write(l:Sg (H x))(he:e=x\/H e=Z (.own x))(k:∀b u,b≠e->h.get? b=Z u->D.get? b=Z u)(B:∃u,D.get? e=Z u):Un fs ex H (pf H x o) h D:=by
 have t:∀b,H b=O->b≠x:=λb n z=>by subst z;rw[n]at l;exact l
 have E:∀b,H b=O->b≠e:=λb n z=>by
  subst z;rcases he with r | r
  .exact t b n r
  .rw[n]at r;cases r
 have hm:∀b u,H b=Z u->¬Sg (Z u)->b≠x:=λb u q nm z=>by subst z;rw[q]at l;exact nm l
 refine⟨λb u q n _ _=>k b u (E b n) q,λb u q n _ _=>⟨u.slots,k b u (E b n) q⟩,λb u q n _=>by rw[Qh (t b n)];exact n,λb u q _=>?_,
  λb xs q=>by rw[Qh (hm b _ q λz=>z)];exact q,λb u xs q=>by rw[Qh (hm b _ q λz=>z)];exact q,λb ps q=>⟨#[],by rw[Qh (hm b _ q λz=>z),q];simp⟩⟩
 by_cases j:b=e
 .subst j;exact B
 .exact⟨u,k b u j q⟩
end
def Sh(h:Heap)(H:Hp):List Addr:=(ai h.objs.size).filter λa=>(H a).isSome
def tY(h:Heap)(H:Hp):Heap:=PySem.W.hideAll h (Sh h H)
def QmE h H:(tY h H).objs.size=h.objs.size:=PySem.W.hideAll_size _ _
def wj(e:h.get? b=Z o)(n:H b=O):(tY h H).get? b=Z o :=
 PySem.W.hideAll_get _ e λhm=>by
  have q :=(aK.mp hm).2;grind
def BY(e:(tY h H).get? b=Z o):h.get? b=Z o/\H b=O:=by
 have j :=PySem.W.of_hideAll (Sh h H) e;refine⟨j,?_⟩;cases q:H b with
 |none=>rfl
 |some x =>
  have hm:b∈Sh h H:=aK.mpr ⟨aR.mpr (aC j),by simp[q]⟩;have z:(tY h H).get? b=O:=PySem.W.hideAll_none (Sh h H) hm;rw[z]at e;cases e
def BZ(g h:Heap)(L:Addr):List (Addr×Obj):=(ai h.objs.size).filterMap λa=>if a=L\/(g.get? a).isSome=Y then O else (h.get? a).map λo=>(a,o)
def pb(g h:Heap)(L d:Addr):List (Addr×Obj):=(BZ g h L).filter λp=>decide (p.1≠d)
structure Mod (K:ab) (mg:Str->Option Value) (base:Heap):Prop where
 kin:K.In base
 glob:base.Ns dB mg
 blt:∃mb,base.Ns builtinsNs mb/\∀x:Str,x≠"__name__"->mb x=cW x
 nolimit:base.NoLimit
structure Cx where
 prog:bh
 w:cg
 K:ab
 mg:Str->Option Value
 base:Heap
 A:dI
 N:List Str
 s₀:aH
 H₀:Hp
 env:Env
 outer:List Env
 stack:List Env
 ex:List Addr
 fn:Str->Bool
 calm:Bool
 pn:List (Addr×Obj)
 xe:Value->aH->Prop
noncomputable def v5(l:List Env):List Addr:=l.filterMap (·.frame)
abbrev Cx.fs(X:Cx):List Addr:=v5 X.outer
def Si(l:gk)(x:Str):Prop:=l.names.lookup x=Z .local\/l.names.lookup x=Z .cell\/l.names.lookup x=Z .free
def BC(l:gk)(x:Str):Prop:=l.names.lookup x=Z .local\/l.names.lookup x=Z .cell
def UA(env:Env)(h:Heap)(m:Str->Option Value)(x:Str)(u:Value):Prop :=
 (env.kindOf x=Z .local/\m x=Z u)\/((env.kindOf x=Z .cell\/env.kindOf x=Z .free)/\∃c,env.cells.lookup x=Z c/\h.IsCell c (Z u))
structure Cx.Ok (X:Cx):Prop where
 mod:Mod X.K X.mg X.base
 kind:X.env.scope.kind = .function
 glob:X.env.globals=dB
 blt:X.env.builtins=builtinsNs
 above:X.s₀.heap.objs.size<=X.env.locals
 inj:∀x y c,X.env.cells.lookup x=Z c->X.env.cells.lookup y=Z c->x=y
 has:∀x,(X.env.kindOf x=Z .cell\/X.env.kindOf x=Z .free)->∃c,X.env.cells.lookup x=Z c
 cab:∀x c,X.fn x=Y->X.env.cells.lookup x=Z c->X.s₀.heap.objs.size<=c
 hd:X.calm=Y->X.A.handled=O
 frames:X.A.frames=Z X.stack
 stk:X.stack=X.outer\/(X.stack=X.env::X.outer/\X.env.frame=Z X.env.locals)
 exf:∀b∈X.ex,b≠X.env.locals/\∀x c,X.env.cells.lookup x=Z c->c≠b
 bs:∀b o,X.base.get? b=Z o->X.s₀.heap.get? b=Z o/\X.H₀ b=O
 bsz:X.base.objs.size<=X.s₀.heap.objs.size
 noex:∀b o,X.base.get? b=Z o->b∉X.ex
 exfs:∀b∈X.ex,b∉X.fs
 funs:X.s₀.heap.FunFrames X.base X.outer
 frf:∀b∈X.fs,X.H₀ b=O
structure Inv (X:Cx) (pins:List (Addr×Obj)) (σ:List (Option V)) (H:Hp) (s:aH):Prop where
 ok:X.Ok
 os:s.os=X.s₀.os
 bare:jX s.gens
 base:Un X.fs X.ex X.H₀ H X.s₀.heap s.heap
 loc:∃m,s.heap.Ns X.env.locals m/\∀(i:Nat)(x:Str)(v:V),X.N[i]?=Z x->σ[i]?=Z (Z v)->Si X.env.scope x->∃u,pq v u/\UA X.env s.heap m x u
 cell:∀x c,X.env.cells.lookup x=Z c->∃v,s.heap.IsCell c v
 free:H X.env.locals=O
 freeC:∀x c,X.env.cells.lookup x=Z c->H c=O
 pin:∀p∈X.pn++pins,s.heap.get? p.1=Z p.2/\H p.1=O/\p.1≠X.env.locals/\p.1∉X.fs/\∀v,p.2.data≠.cell v
 hok:sf X.prog X.w H s.heap
 len:σ.length=X.N.length
section
def Cx.Ok.nofr{X:Cx}(ok:X.Ok)(e:X.base.get? b=Z o):b∉X.fs:=λj=>by
 have:=(ok.funs.mem j).1;grind
def Inv.bs{X:Cx}{s:aH}(I:Inv X l B H s):∀b o,X.base.get? b=Z o->s.heap.get? b=Z o/\H b=O:=λb o e =>
 ⟨I.base.keep b o (I.ok.bs b o e).1 (I.ok.bs b o e).2 (I.ok.nofr e) (I.ok.noex b o e),I.base.free b o (I.ok.bs b o e).1 (I.ok.bs b o e).2 (I.ok.noex b o e)⟩
def Inv.bk{X:Cx}{s:aH}(I:Inv X l B H s):∀b o,X.base.get? b=Z o->s.heap.get? b=Z o:=λb o e=>(I.bs b o e).1
def Inv.mod{X:Cx}(I:Inv X l B H s):Mod X.K X.mg X.base:=I.ok.mod
def Inv.kIn{X:Cx}{s:aH}(I:Inv X l B H s):X.K.In s.heap:=I.ok.mod.kin.keeps I.bk
def Inv.lt{X:Cx}{s:aH}(I:Inv X l B H s):X.env.locals<s.heap.objs.size:=let ⟨_,j,_⟩:=I.loc;j.lt
def Inv.sz{X:Cx}{s:aH}(I:Inv X l B H s):X.s₀.heap.objs.size<=s.heap.objs.size:=aY I.ok.above (cb I.lt)
def Inv.nofs{X:Cx}{s:aH}(I:Inv X l B H s)(h:s.heap.objs.size<=a):a∉X.fs:=λj=>by
 obtain⟨_,o,ho,_⟩:=I.ok.funs.mem j;exact absurd (aF (aC ho) (aY I.sz h)) (cp _)
def Inv.cne{X:Cx}(I:Inv X l B H s):∀x c,X.env.cells.lookup x=Z c->c≠X.env.locals:=λx c e z=>by
 obtain⟨v,o,ho,hd⟩:=I.cell x c e;obtain⟨m,⟨u,D,E,j,t,_⟩,_⟩:=I.loc;grind
def Inv.funs{X:Cx}{s:aH}(I:Inv X B M H s):s.heap.FunFrames X.base X.outer:=by
 have all:∀l,(∀b∈v5 l,b∈X.fs)->X.s₀.heap.FunFrames X.base l->s.heap.FunFrames X.base l:=by
  intro l;induction l with
  |nil=>intro _ _;trivial
  |cons env r u =>
   intro hs D;obtain⟨E,⟨L,o,hf,J,ho,hd⟩,hr⟩:=D;have j :=hs L (by delta v5;rw[jf,hf];exact a7);obtain⟨sl,e⟩:=I.base.slot L o ho (I.ok.frf L j) j λz=>I.ok.exfs L z j;exact⟨E,⟨L,_,hf,J,e,hd⟩,u (λb t=>hs b (by delta v5;rw[jf,hf];exact ay _ t)) hr⟩
 exact all X.outer (λ_ t=>t) I.ok.funs
def Inv.stack{X:Cx}{s:aH}(I:Inv X l B H s):s.heap.FunFrames X.base X.stack:=by
 rcases I.ok.stk with e|⟨e,hf⟩
 .rw[e];exact I.funs
 .rw[e];obtain⟨m,j,_⟩:=I.loc;refine .cons (by rw[I.ok.kind];decide) hf j ?_ I.funs;exact Heap.get?_none_of_le (aY I.ok.bsz I.ok.above)
def Inv.stkSub  (I:Inv X l B H s):∀b∈v5 X.stack,b∈X.env.locals::X.fs:=λb j=>by
 rcases I.ok.stk with e|⟨e,hf⟩
 .rw[e]at j;exact ay _ j
 .rw[e]at j;delta v5 at j;rw[jf,hf]at j;exact j
def Inv.stkFree  (I:Inv X l B H s):∀b∈v5 X.stack,H b=O:=λb j=>by
 rcases ap.mp (I.stkSub b j) with e | j
 .rw[e];exact I.free
 .obtain⟨_,o,ho,_⟩:=I.ok.funs.mem j;exact I.base.free b o ho (I.ok.frf b j) λz=>I.ok.exfs b z j
def Inv.step{s:aH}{M:Heap}{g':Array ml}{t':Nat}{d':Drawn}{ch:List Addr}(I:Inv X L σ H s)(B:∀b∈ch,(b∈X.ex\/X.s₀.heap.objs.size<=b)/\b≠X.env.locals/\(∀x c,X.env.cells.lookup x=Z c->c≠b)/\∀p∈X.pn++L,p.1≠b)(keep:∀b o,b≠X.env.locals->b∉X.fs->b∉ch->s.heap.get? b=Z o->H b=O->M.get? b=Z o)(slot:∀b o,b≠X.env.locals->b∈X.fs->b∉ch->s.heap.get? b=Z o->H b=O->∃sl,M.get? b=Z { o with slots:=sl })(free:∀b o,b∉ch->s.heap.get? b=Z o->H b=O->zx b=O)(there:∀b o,b∉ch->s.heap.get? b=Z o->∃T,M.get? b=Z T)(tups:∀b xs,H b=Z (.tup xs)->zx b=Z (.tup xs))(frzs:∀b o u,H b=Z (.frz o u)->zx b=Z (.frz o u))(tbls:∀b ps,H b=Z (.tbl ps)->∃pX,zx b=Z (.tbl (ps++pX)))(ns:∀m,s.heap.Ns X.env.locals m->M.Ns X.env.locals m)(hok:sf X.prog X.w zx M)(hg:jX g') :
  Inv X L σ zx { s with heap:=M,gens:=g',drawn:=d',toks:=t' }:=by
 have zw:∀b o,X.s₀.heap.get? b=Z o->b≠X.env.locals:=λb o e=>aM (aF (aC e) I.ok.above);have E:∀b o,X.s₀.heap.get? b=Z o->b∉X.ex->b∉ch:=λb o e j J=>by
  rcases (B b J).1 with z | z
  .exact j z
  .exact absurd (aF (aC e) z) (cp _)
 have t:∀x c,X.env.cells.lookup x=Z c->∀v,s.heap.IsCell c v->M.IsCell c v:=λx c e v zz=>by
  obtain⟨o,ho,hd⟩:=zz;have D :=λz=>(B c z).2.2.1 x c e rfl;by_cases hc:c∈X.fs
  .obtain⟨sl,q⟩:=slot c o (I.cne x c e) hc D ho (I.freeC x c e);exact⟨_,q,hd⟩
  .exact⟨o,keep c o (I.cne x c e) hc D ho (I.freeC x c e),hd⟩
 refine⟨I.ok,I.os,hg,⟨λb o e n J j=>?_,λb o e n J j=>?_,λb o e n j=>?_,λb o e j=>?_,λb xs e=>tups b xs (I.base.tups b xs e),λb o xs e=>frzs b o xs (I.base.frzs b o xs e),λb ps e=>?_⟩,?_,λx c e=>?_,?_,λx c e=>?_,λp hp=>?_,hok,I.len⟩
 .exact keep b o (zw b o e) J (E b o e j) (I.base.keep b o e n J j) (I.base.free b o e n j)
 .obtain⟨sl,e1⟩:=I.base.slot b o e n J j;obtain⟨zy,e2⟩:=slot b _ (zw b o e) J (E b o e j) e1 (I.base.free b o e n j);exact⟨zy,e2⟩
 .obtain⟨T,e1⟩:=I.base.there b o e j;exact free b T (E b o e j) e1 (I.base.free b o e n j)
 .obtain⟨T,e1⟩:=I.base.there b o e j;exact there b T (E b o e j) e1
 .obtain⟨m1,e1⟩:=I.base.tbls b ps e;obtain⟨m2,e2⟩:=tbls b _ e1;exact⟨m1++m2,by rw[e2,jr]⟩
 .obtain⟨m,hn,hl⟩:=I.loc;refine⟨m,ns m hn,λi x v e1 e2 e3=>?_⟩;obtain⟨u,r,l⟩:=hl i x v e1 e2 e3;refine⟨u,r,?_⟩;rcases l with l|⟨k,c,e,z⟩
  .exact .inl l
  .exact .inr ⟨k,c,e,t x c e _ z⟩
 .obtain⟨v,z⟩:=I.cell x c e;exact⟨v,t x c e v z⟩
 .obtain⟨m,⟨o,_,_,ho,_⟩,_⟩:=I.loc;exact free _ o (λz=>(B _ z).2.1 rfl) ho I.free
 .obtain⟨v,o,ho,hd⟩:=I.cell x c e;exact free c o (λz=>(B c z).2.2.1 x c e rfl) ho (I.freeC x c e)
 .obtain⟨e,n,ne,nf,d⟩:=I.pin p hp;have D :=λz=>(B p.1 z).2.2.2 p hp rfl;exact⟨keep p.1 p.2 ne nf D e n,free p.1 p.2 D e n,ne,nf,d⟩
def Inv.un{X:Cx}{s:aH}(I:Inv X l zx H s)(u:Un X.fs [] H L s.heap M)(hok:sf X.prog X.w L M):Inv X l zx L { s with heap:=M,toks:=t' }:=by
 obtain⟨m,⟨o,T,zw,ho,r⟩,_⟩:=id I.loc;obtain⟨sl,E⟩:=u.any ho I.free (by simp);exact I.step (ch:=[]) (by grind) (λb o _ t _ e n=>u.keep b o e n t (by simp)) (λb o _ t _ e n=>u.slot b o e n t (by simp)) (λb o _ e n=>u.free b o e n (by simp)) (λb o _ e=>u.there b o e (by simp)) u.tups u.frzs u.tbls (λzy hm=>by
  obtain⟨o',B,D,j,J⟩:=hm;rw[ho]at j;cases j;exact⟨_,B,D,E,J⟩) hok I.bare
def Inv.call{s:aH}(I:Inv X l T H s)(u:Un (v5 X.stack) ch H M s.heap zx)(hok:sf X.prog X.w M zx)(zw:jX zy)(B:∀b∈ch,(b∈X.ex\/X.s₀.heap.objs.size<=b)/\b≠X.env.locals/\(∀x c,X.env.cells.lookup x=Z c->c≠b)/\∀p∈X.pn++l,p.1≠b) :
  Inv X l T M { s with heap:=zx,gens:=zy,drawn:=d',toks:=t' }:=by
 obtain⟨m,⟨o,es,ep,ho,r⟩,_⟩:=id I.loc;obtain⟨sl,L⟩:=u.any ho I.free λz=>(B _ z).2.1 rfl;exact I.step B (λb o L E hc e n=>u.keep b o e n (λz=>(ap.mp (I.stkSub b z)).elim L E) hc) (λb o _ _ hc e n=>u.any e n hc) (λb o hc e n=>u.free b o e n hc) (λb o hc e=>u.there b o e hc) u.tups u.frzs u.tbls (λm' hm=>by
  obtain⟨o',t,D,j,J⟩:=hm;rw[ho]at j;cases j;exact⟨_,t,D,L,J⟩) hok zw
def Inv.turned{s:aH}{B:Heap}(I:Inv X l D H s)(k:∀b o,b≠it->s.heap.get? b=Z o->B.get? b=Z o)(M:H it=O)(L:it≠X.env.locals)(h1:it∈X.ex\/X.s₀.heap.objs.size<=it)(h2:∀x c,X.env.cells.lookup x=Z c->c≠it)(h3:∀p∈X.pn++l,p.1≠it):Inv X l D H { s with heap:=B,toks:=t' }:=by
 have t:∀b u,H b=Z u->b≠it:=λb u e z=>by rw[z,M]at e;cases e
 refine I.step (ch:=[it]) (λb j=>?_) (λb o _ _ hc e _=>k b o (λz=>hc (by simp[z])) e) (λb o _ _ hc e _=>⟨o.slots,k b o (λz=>hc (by simp[z])) e⟩) (λ_ _ _ _ n=>n)
  (λb o hc e=>⟨o,k b o (λz=>hc (by simp[z])) e⟩) (λ_ _ e=>e) (λ_ _ _ e=>e) (λb ps e=>⟨#[],by rw[e];simp⟩) (λm hm=>?_) (λb u e=>?_) I.bare
 .have e :=by simpa using j
  subst e;exact⟨h1,L,h2,h3⟩
 .obtain⟨o,E,J,ho,r⟩:=hm;exact⟨o,E,J,k _ o (Ne.symm L) ho,r⟩
 .refine(I.hok b u e).stay (λc v hc q=>k c v ?_ q) (λ_ q=>q) λ_ _ q=>q;rcases hc with z | z
  .rw[z];exact t b u e
  .exact t c _ z
def Inv.tok{X:Cx}(I:Inv X l B H s) t:Inv X l B H { s with toks:=t }:=I.un Un.refl I.hok
def Inv.kept{X:Cx}{s:aH}{B:Heap}{t':Nat}(I:Inv X l D H s)(k:∀b u,s.heap.get? b=Z u->B.get? b=Z u):Inv X l D H { s with heap:=B,toks:=t' }:=I.un (Un.kept k) (I.hok.kept k)
def Inv.laid{X:Cx}{s:aH}{B:Heap}{a:Addr}{o:HO}{t':Nat}(I:Inv X l L H s)(k:∀b u,s.heap.get? b=Z u->B.get? b=Z u)(D:s.heap.objs.size<=a)(new:ObjOk X.prog X.w (pf H a o) B a o) :
  Inv X l L (pf H a o) { s with heap:=B,toks:=t' }:=I.un (Un.laid k D (I.hok.fresh D)) (I.hok.laid k D new)
def Inv.write{X:Cx}{s:aH}{D:Heap}{x e:Addr}{o:HO}{t':Nat}(I:Inv X l M H s)(L:Sg (H x))(he:e=x\/H e=Z (.own x))(k:∀b u,b≠e->s.heap.get? b=Z u->D.get? b=Z u)(B:∃u,D.get? e=Z u)(new:ObjOk X.prog X.w (pf H x o) D x o):Inv X l M (pf H x o) { s with heap:=D,toks:=t' }:=I.un (Un.write L he k B) (I.hok.write L he k B new)
def Inv.weak{X:Cx}{D:List (Option V)}(I:Inv X l D H s)(L:B.length=D.length)(w:∀(i:Nat) v,B[i]?=Z (Z v)->D[i]?=Z (Z v)):Inv X l B H s :=
 ⟨I.ok,I.os,I.bare,I.base,let ⟨m,t,j⟩:=I.loc;⟨m,t,λi x v e1 e2 e3=>j i x v e1 (w i v e2) e3⟩,I.cell,I.free,I.freeC,I.pin,I.hok,L.trans I.len⟩
def Inv.pins_of{X:Cx}{s:aH}(I:Inv X B D H s)(h:∀p∈l,s.heap.get? p.1=Z p.2/\H p.1=O/\p.1≠X.env.locals/\p.1∉X.fs/\∀v,p.2.data≠.cell v):Inv X l D H s :=
 ⟨I.ok,I.os,I.bare,I.base,I.loc,I.cell,I.free,I.freeC,λp j=>(aS.mp j).elim (λz=>I.pin p (by grind)) (h p),I.hok,I.len⟩
def Y9{N:List Str}(l:N.Nodup){i j:Nat}(a:N[i]?=Z x)(b:N[j]?=Z x):i=j:=by
 obtain⟨h1,e1⟩:=ax.mp a;obtain⟨h2,e2⟩:=ax.mp b;exact(n5 l).mp (e1.trans e2.symm)
def Z0{X:Cx}{σ:List (Option V)}{s:aH}(I:Inv X zw σ H s)(hN:X.N.Nodup)(zy:X.N[i]?=Z x)(l:BC X.env.scope x)(r:pq v u)(h:∀s',Inv X zw (σ.set i (Z v)) H s'->(∃a,bN a s.heap s'.heap/\(a=X.env.locals\/X.env.cells.lookup x=Z a))->Q () s')(hf:X.fn x=Y\/X.env.scope.names.lookup x=Z .local:=by first | exact .inl rfl | exact .inr rfl | assumption):aE M A (storeName X.env x u) Q E s:=by
 obtain⟨m,hn,hl⟩:=id I.loc;have av:(X.env.scope.kind==.class||(X.env.scope.kind==.module&&X.env.locals != X.env.globals))=U:=by rw[I.ok.kind];rfl
 have B:i<σ.length:=by rw[I.len];exact(ax.mp zy).1
 have cne:=I.cne;have tracked:∀{a:Addr}{T:Heap},(∃o,s.heap.get? a=Z o/\H a=O)->bN a s.heap T->sf X.prog X.w H T:=λ{a T} ha hs b ob e=>by
  obtain⟨_,_,t⟩:=ha;refine(I.hok b ob e).stay (λc w' hc q=>(hs.2 c ?_).trans q) (λ_ q=>q) λ_ _ q=>q;rintro rfl;rcases hc with rfl | hc
  .rw[t]at e;cases e
  .rw[t]at hc;cases hc
 rcases l with D | D
 .refine wpAny_storeName_local D hn (λT aJ hs=>?_) av;obtain⟨oL,_,_,aZ,_⟩:=id hn;refine h _ ⟨I.ok,I.os,I.bare,⟨λb o e n J l=>?_,λb o e n J l=>?_,I.base.free,λb o e l=>?_,I.base.tups,I.base.frzs,I.base.tbls⟩,⟨_,aJ,λj y v' e1 e2 e3=>?_⟩,λy c e=>?_,I.free,I.freeC,λp hp=>?_,tracked ⟨oL,aZ,I.free⟩ hs,by simpa using I.len⟩ ⟨_,hs,.inl rfl⟩
  .exact(hs.2 b (aM (aF (aC e) I.ok.above))).trans (I.base.keep b o e n J l)
  .obtain⟨sl,e1⟩:=I.base.slot b o e n J l;exact⟨sl,(hs.2 b (aM (aF (aC e) I.ok.above))).trans e1⟩
  .obtain⟨o',e1⟩:=I.base.there b o e l;exact⟨o',(hs.2 b (aM (aF (aC e) I.ok.above))).trans e1⟩
  .by_cases L:j=i
   .subst L;rw[zy]at e1;cases e1;rw[ba B]at e2;cases e2;exact⟨u,r,.inl ⟨D,by simp⟩⟩
   .rw[aD (Ne.symm L)]at e2;obtain⟨u',r',q⟩:=hl j y v' e1 e2 e3;refine⟨u',r',?_⟩;rcases q with⟨k,e⟩|⟨k,c,e,z⟩
    .refine .inl ⟨k,?_⟩;have:y≠x:=λe=>L (Y9 hN e1 (e▸zy));simp[this,e]
    .exact .inr ⟨k,c,e,z.sameBut hs (cne y c e)⟩
  .obtain⟨w',z⟩:=I.cell y c e;exact⟨w',z.sameBut hs (cne y c e)⟩
  .obtain⟨e,n,ne,nf,d⟩:=I.pin p hp;exact⟨(hs.2 p.1 ne).trans e,n,ne,nf,d⟩
 .have zx:X.fn x=Y:=by
   rcases hf with z | z
   .exact z
   .rw[z]at D;cases D
  obtain⟨c,hc⟩:=I.ok.has x (.inl D);obtain⟨w',z⟩:=I.cell x c hc;refine wpAny_storeName_cell I.ok.kind D hc z (λT az hs=>?_);obtain⟨oc,aq,aj⟩:=id z;refine h { s with heap:=T } ⟨I.ok,I.os,I.bare,⟨λb o e n J l=>?_,λb o e n J l=>?_,I.base.free,λb o e l=>?_,I.base.tups,I.base.frzs,I.base.tbls⟩,⟨m,hn.sameBut hs (Ne.symm (cne x c hc)),λj y v' e1 e2 e3=>?_⟩,λy c' e=>?_,I.free,I.freeC,λp hp=>?_,tracked ⟨oc,aq,I.freeC x c hc⟩ hs,by simpa using I.len⟩ ⟨c,hs,.inr hc⟩
  .exact(hs.2 b (aM (aF (aC e) (I.ok.cab x c zx hc)))).trans (I.base.keep b o e n J l)
  .obtain⟨sl,e1⟩:=I.base.slot b o e n J l;exact⟨sl,(hs.2 b (aM (aF (aC e) (I.ok.cab x c zx hc)))).trans e1⟩
  .obtain⟨o',e1⟩:=I.base.there b o e l;exact⟨o',(hs.2 b (aM (aF (aC e) (I.ok.cab x c zx hc)))).trans e1⟩
  .by_cases L:j=i
   .subst L;rw[zy]at e1;cases e1;rw[ba B]at e2;cases e2;exact⟨u,r,.inr ⟨.inl D,c,hc,az⟩⟩
   .rw[aD (Ne.symm L)]at e2;obtain⟨u',r',q⟩:=hl j y v' e1 e2 e3;refine⟨u',r',?_⟩;rcases q with q|⟨k,c',e,z'⟩
    .exact .inl q
    .refine .inr ⟨k,c',e,z'.sameBut hs ?_⟩;rintro rfl;exact L (Y9 hN e1 (I.ok.inj _ _ _ e hc▸zy))
  .by_cases ak:c'=c
   .subst ak;exact⟨_,az⟩
   .obtain⟨w2,z2⟩:=I.cell y c' e;exact⟨w2,z2.sameBut hs ak⟩
  .obtain⟨e,n,ne,nf,d⟩:=I.pin p hp;refine⟨(hs.2 p.1 ?_).trans e,n,ne,nf,d⟩;intro q;rw[q,aq]at e;have q' :=bi e;exact d w' (by rw[<-q'];exact aj)
def UB{X:Cx}{B:List (Option V)}(I:Inv X l B H s)(D:X.N.Nodup)(L:X.N[i]?=Z x)(zy:BC X.env.scope x)(r:pq v u)(h:∀s',Inv X l (B.set i (Z v)) H s'->Q () s')(hf:X.fn x=Y\/X.env.scope.names.lookup x=Z .local:=by first | exact .inl rfl | exact .inr rfl | assumption):aE M A (storeName X.env x u) Q E s :=
 Z0 I D L zy r (λs' j _=>h s' j) hf
def Inv.call'{s:aH}(I:Inv X l L H s)(ho:s'.os=s.os)(u:Un (v5 X.stack) ch H D s.heap s'.heap)(hok:sf X.prog X.w D s'.heap)(M:jX s'.gens)(B:∀b∈ch,(b∈X.ex\/X.s₀.heap.objs.size<=b)/\b≠X.env.locals/\(∀x c,X.env.cells.lookup x=Z c->c≠b)/\∀p∈X.pn++l,p.1≠b):Inv X l L D s':=by
 obtain⟨j,t,E,t',J⟩:=s';have e :=ho;subst e;exact I.call u hok M B
end
abbrev XK:=Value->Option Addr->Hp->Prop
abbrev St:=List (Option V)
abbrev VK:=V->Hp->Prop
abbrev TE:=St->Hp->VK->Prop
abbrev TT:=St->Hp->(Bool->Hp->Prop)->Prop
abbrev TA:=St->Hp->(List V->Hp->Prop)->Prop
structure wk where
 nx:St->Hp->Prop
 rt:VK
 bk:St->Hp->Prop:=λ_ _=>False
 ct:St->Hp->Prop:=λ_ _=>False
abbrev TS:=wk->St->Hp->Prop
inductive EP (X:Cx) (pins:List (Addr×Obj)) (σ:St) (Q:VK) (u:Value) (s':aH):Prop
 |mk v H':Inv X pins σ H' s'->pq v u->Q v H'->EP X pins σ Q u s'
def TP(X:Cx)(l:List (Addr×Obj))(B:St)(Q:Bool->Hp->Prop)(b:Bool)(s':aH):Prop:=∃H,Inv X l B H s'/\Q b H
inductive AP (X:Cx) (pins:List (Addr×Obj)) (σ:St) (Q:List V->Hp->Prop) (us:List Value) (s':aH):Prop
 |mk vs H':Inv X pins σ H' s'->o4 vs us->Q vs H'->AP X pins σ Q us s'
def SP(X:Cx)(l:List (Addr×Obj))(D:wk)(f:Flow)(s':aH):Prop :=
 match f with
 |.next=>∃j H,Inv X l j H s'/\D.nx j H
 |.brk=>∃j H,Inv X l j H s'/\D.bk j H
 |.cont=>∃j H,Inv X l j H s'/\D.ct j H
 |.ret u=>∃v j H,Inv X l j H s'/\pq v u/\D.rt v H
def PE(X:Cx)(e:Expr)(t:TE):Prop :=
 ∀j s (l:St) H Q,Inv X j l H s->t l H Q->aE (model X.prog X.w) X.A (eval e X.env) (EP X j l Q) X.xe s
def PT(X:Cx)(e:Expr)(t:TT):Prop :=
 ∀j s (l:St) H Q,Inv X j l H s->t l H Q->aE (model X.prog X.w) X.A (isTrue e X.env (eval e X.env)) (TP X j l Q) X.xe s
def PW(X:Cx)(e:Expr)(t:TT):Prop :=
 ∀whole j s (l:St) H Q,Inv X j l H s->t l H Q->aE (model X.prog X.w) X.A (isTrue e X.env whole) (TP X j l Q) X.xe s
def PW.pt(h:PW X e t):PT X e t:=h _
def PA(X:Cx)(B:List Expr)(t:TA):Prop :=
 ∀l j s (u:St) H Q,Inv X j u H s->t u H Q->aE (model X.prog X.w) X.A (spliced (bA l (ah B X.env))) (AP X j u Q) X.xe s
def PS(X:Cx)(st:Stmt)(t:TS):Prop :=
 ∀j s (l:St) H D,Inv X j l H s->t D l H->aE (model X.prog X.w) X.A (exec st X.env) (SP X j D) X.xe s
def PSs(X:Cx)(st:List Stmt)(t:TS):Prop :=
 ∀j s (l:St) H D,Inv X j l H s->t D l H->aE (model X.prog X.w) X.A (execs st X.env) (SP X j D) X.xe s
def pA(h:aE M A t Q E s)(l:∀a s,Q a s->B a s):aE M A t B E s:=fh h l λ_ _ x=>x
section
def qN(i:Nat):TE:=λj H Q=>∃v,j[i]?=Z (Z v)/\Q v H
def tC(v:V):TE:=λ_ H Q=>Q v H
def Hy(L:X.N[i]?=Z x)(M:Si X.env.scope x)(hd:(x=="__debug__")=U:=by decide)(D:(x=="__classdict__")=U:=by decide):PE X (.Name x zy) (qN i):=by
 intro B s E H Q I h;obtain⟨v,e,h⟩:=h;obtain⟨m,J,T⟩:=I.loc;obtain⟨u,r,l⟩:=T i x v L e M;have fin:EP X B E Q u s:=⟨v,H,I,r,h⟩
 rcases l with⟨t,hm⟩|⟨t,c,hc,j⟩
 .exact wpAny_Name (ox I.ok.kind t J hm fin) hd
 .rcases t with t | t
  .exact wpAny_Name (wpAny_loadName_cell I.ok.kind t hc j fin) hd
  .exact wpAny_Name (wpAny_loadName_free I.ok.kind t hc j fin D) hd
def Hz:PE X (.Constant (.int i) j l) (tC (.int i)):=λ_ _ _ H _ I h=>wpAny_Constant_int ⟨.int i,H,I.tok _,⟨_,rfl⟩,h⟩
def Nr:PE X (.Constant (.bool b) j l) (tC (.bl b)):=λ_ _ _ H _ I h=>Constant_bool ⟨.bl b,H,I,rfl,h⟩
def HA:PE X (.Constant .none j l) (tC .non):=λ_ _ _ H _ I h=>Constant_none ⟨.non,H,I,rfl,h⟩
def HB:PE X (.Constant (.str x) j l) (tC (.str x)):=λ_ _ _ H _ I h=>Calls.Constant_str ⟨.str x,H,I.tok _,⟨_,rfl⟩,h⟩
def Gl(X:Cx)(x:Str):Prop:=X.env.kindOf x=Z .globalImplicit
def UC(I:Inv X l L H s)(B:Gl X x)(hm:X.mg x=Z u)(h:Q u s)(hd:(x=="__debug__")=U:=by decide):aE (model X.prog X.w) X.A (eval (.Name x D) X.env) Q E s :=
 mm I.ok.kind B (Calls.loadGlobal_global (by rw[I.ok.glob];exact I.mod.glob.keeps I.bk) hm h) hd
def B0(I:Inv X l zy H s)(B:Gl X x)(hm:X.mg x=O)(D:cW x=Z u)(h:Q u s)(L:x≠"__name__":=by decide)(hd:(x=="__debug__")=U:=by decide):aE (model X.prog X.w) X.A (eval (.Name x M) X.env) Q E s:=by
 obtain⟨j,h1,h2⟩:=I.mod.blt;exact mm I.ok.kind B (Calls.loadGlobal_builtin (by rw[I.ok.glob];exact I.mod.glob.keeps I.bk) hm (by rw[I.ok.blt];exact h1.keeps I.bk) ((h2 x L).trans D) h) hd
def UD(l:Gl X x)(hm:X.mg x=Z u)(r:pq v u)(hd:(x=="__debug__")=U:=by decide):PE X (.Name x B) (tC v) :=
 λ_ _ _ H _ I h=>UC I l hm ⟨v,H,I,r,h⟩ hd
def B1(l:Gl X x)(hm:X.mg x=O)(B:cW x=Z u)(r:pq v u)(D:x≠"__name__":=by decide)(hd:(x=="__debug__")=U:=by decide):PE X (.Name x L) (tC v) :=
 λ_ _ _ H _ I h=>B0 I l hm B ⟨v,H,I,r,h⟩ D hd
def t2I(B D:TE)(k:Int->Int->Hp->Prop):St->Hp->Prop:=λl H=>B l H λx t=>D l t λy u=>∃i j,x = .int i/\y = .int j/\k i j u
def UE(p:Int->Int->Bool)(l B:TE):TE:=λt H Q=>t2I l B (λi j u=>Q (.bl (p i j)) u) t H
abbrev tLe:TE->TE->TE:=UE λi j=>decide (i<=j)
def tB(t:TE):TT:=λj H Q=>t j H λx l=>∃c,x = .bl c/\Q c l
def UF(t u:TT):TT:=λj H Q=>t j H λc l=>if c=Y then u j l Q else Q U l
def tOr(t u:TT):TT:=λj H Q=>t j H λc l=>if c=Y then Q Y l else u j l Q
def UG(t:TT):TT:=λj H Q=>t j H λc l=>Q (!c) l
def pw_and1(l:PT X a B):PW X (.BoolOp .And [a] D) B:=by
 intro u j s t H Q I h;refine isTrue_and (pA (l j s t H Q I h) λc s1 e=>?_);cases c with
 |true=>exact isTrue_and_nil e
 |false=>exact e
def pw_or1(l:PT X a B):PW X (.BoolOp .Or [a] D) B:=by
 intro u j s t H Q I h;refine isTrue_or (pA (l j s t H Q I h) λc s1 e=>?_);cases c with
 |false=>exact isTrue_or_nil e
 |true=>exact e
def pw_and{X:Cx}{l:Pos}{D:TT}{B:TT}{pb:List Expr}(L:PT X a D)(M:PW X (.BoolOp .And (b::pb) l) B):PW X (.BoolOp .And (a::b::pb) l) (UF D B):=by
 intro zy j s t H Q I h;refine isTrue_and (pA (L j s t H _ I h) λc s1 T=>?_);obtain⟨u,E,J⟩:=T;cases c with
 |true=>exact M zy j s1 t u Q E J
 |false=>exact⟨u,E,J⟩
def pw_or{X:Cx}{l:Pos}{D:TT}{B:TT}{pb:List Expr}(L:PT X a D)(M:PW X (.BoolOp .Or (b::pb) l) B):PW X (.BoolOp .Or (a::b::pb) l) (tOr D B):=by
 intro zy j s t H Q I h;refine isTrue_or (pA (L j s t H _ I h) λc s1 T=>?_);obtain⟨u,E,J⟩:=T;cases c with
 |true=>exact⟨u,E,J⟩
 |false=>exact M zy j s1 t u Q E J
def HC(l:PT X a B):PT X (.UnaryOp .Not a D) (UG B):=by
 intro j s t H Q I h;exact isTrue_not (l j s t H (λc u=>Q (!c) u) I h)
def Nt(B D:TE):TE:=λj H Q=>B j H λx l=>∃c,x = .bl c/\if c=Y then D j l Q else Q (.bl U) l
def UH(B D:TE):TE:=λj H Q=>B j H λx l=>∃c,x = .bl c/\if c=Y then Q (.bl Y) l else D j l Q
def HE(h:PE X a t):PE X (.BoolOp B [a] l) t:=λj s u H Q I hw=>BoolOp_one (h j s u H Q I hw)
def HF{X:Cx}{B:TE}{D:TE}{l:Pos}{pb:List Expr}(L:PE X a B)(M:PE X (.BoolOp .And (b::pb) l) D):PE X (.BoolOp .And (a::b::pb) l) (Nt B D):=by
 intro j s u H Q I h;refine BoolOp_and (pA (L j s u H _ I h) λv s1 zy=>?_);obtain⟨x,E,J,T,t⟩:=zy;obtain⟨c,rfl,t⟩:=t;cases T;refine du ?_;cases c with
 |true=>exact M j s1 u E Q J t
 |false=>exact⟨.bl U,E,J,rfl,t⟩
def Nu{X:Cx}{B:TE}{D:TE}{l:Pos}{pb:List Expr}(L:PE X a B)(M:PE X (.BoolOp .Or (b::pb) l) D):PE X (.BoolOp .Or (a::b::pb) l) (UH B D):=by
 intro j s u H Q I h;refine BoolOp_or (pA (L j s u H _ I h) λv s1 zy=>?_);obtain⟨x,E,J,T,t⟩:=zy;obtain⟨c,rfl,t⟩:=t;cases T;refine du ?_;cases c with
 |false=>exact M j s1 u E Q J t
 |true=>exact⟨.bl Y,E,J,rfl,t⟩
def tIf(t:TT)(B D:TE):TE:=λj H Q=>t j H λc l=>if c=Y then B j l Q else D j l Q
def wl(hc:PT X c D)(L:PE X a M)(zy:PE X b T):PE X (.IfExp c a b zx) (tIf D M T):=by
 intro j s l H Q I h;refine wpAny_IfExp (pA (hc j s l H _ I h) λd s1 E=>?_);obtain⟨t,u,B⟩:=E;cases d with
 |true=>exact L j s1 l t Q u B
 |false=>exact zy j s1 l t Q u B
end
def qg(K:ab)(H:Hp)(a:Addr)(xs:List V):Prop :=
 Rd H a (.lst xs) \/
  ∃(o:Obj)(t:Array Value)(n:Nat),K.lookup a=Z o/\o.cls = .type "list"/\o.dict=O/\o.data = .seq t n/\t.size<=aV/\o4 xs t.toList
def qz(K:ab)(H:Hp)(a:Addr)(xs:List V):Prop :=
 Rd H a (.tup xs) \/
  ∃(o:Obj)(t:Array Value)(n:Nat),K.lookup a=Z o/\o.cls = .type "tuple"/\o.dict=O/\o.data = .seq t n/\t.size<=aV/\o4 xs t.toList
noncomputable def UI:Value->Option V
 |.none=>Z .non
 |.bool b=>Z (.bl b)
 |.int i _=>Z (.int i)
 |.str x _=>Z (.str x)
 |.bytes b _=>Z (.byt b)
 |.float b _=>Z (.flt b)
 |.ref a=>Z (.ref a)
 |.type n=>Z (.ty n)
 |_=>O
def pq.abs(r:pq x u):UI u=Z x:=by
 cases x with
 |int _=>obtain⟨t,rfl⟩:=r;rfl
 |str _=>obtain⟨t,rfl⟩:=r;rfl
 |byt _=>obtain⟨t,rfl⟩:=r;rfl
 |flt _=>obtain⟨t,rfl⟩:=r;rfl
 |_=>cases r;rfl
def pq.inj(r:pq x u)(q:pq y u):x=y:=bi (r.abs.symm.trans q.abs)
def o4.inj:∀{xs ys:List V}{us:List Value},o4 xs us->o4 ys us->xs=ys:=by
 intro xs ys us h;induction h generalizing ys with
 |nil=>intro h;cases h;rfl
 |cons r t j=>intro h;cases h with | cons l t'=>rw[r.inj l,j t']
section
def qg.of{K:ab}(h:H a=Z (.lst xs)):qg K H a xs := .inl (.inl h)
def qz.of{K:ab}(h:H a=Z (.tup xs)):qz K H a xs := .inl (.inl h)
def Inv.list(I:Inv X B D H s)(h:qg X.K H a xs):∃l ,o4 xs l/\PlainL s.heap a l.toArray/\xs.length<=aV:=by
 rcases h with h|⟨o,l,n,j,hc,hd,hs,hz,r⟩
 .obtain⟨z,l,n,r,e⟩:=h.ok I.hok;exact⟨l,r,⟨_,n,e,rfl,rfl,rfl⟩,z⟩
 .refine⟨l.toList,r,⟨o,n,I.kIn a o j,hc,hd,by simpa using hs⟩,?_⟩;have e:=r.length;grind
def Inv.tupleD(I:Inv X B D H s)(h:qz X.K H a xs):∃l ,o4 xs l/\YR s.heap a l.toArray xs/\xs.length<=aV:=by
 rcases h with h|⟨o,l,n,j,hc,hd,hs,hz,r⟩
 .obtain⟨z,l,r,p⟩:=h.ok I.hok;exact⟨l,r,p,z⟩
 .refine⟨l.toList,r,⟨o,I.kIn a o j,hc,.inl hd,n,by simpa using hs⟩,?_⟩;have e:=r.length;simp at e;lia
def Inv.tuple(I:Inv X B D H s)(h:qz X.K H a xs):∃l ,o4 xs l/\IsTup s.heap a l.toArray/\xs.length<=aV :=
 let ⟨l,r,p,z⟩:=I.tupleD h
 ⟨l,r,p.is,z⟩
def Inv.list_inj(I:Inv X l L H s)(h:qg X.K H a xs)(B:qg X.K H a ys):xs=ys:=by
 obtain⟨t,r,⟨o,n,e,_,_,d⟩,_⟩:=I.list h;obtain⟨its',D,⟨J,M,j,_,_,u⟩,_⟩:=I.list B;rw[e]at j;cases j;rw[d]at u;injection u with E _
 have:t=its':=by simpa using congrArg Array.toList E
 subst this;exact r.inj D
def Inv.tuple_inj(I:Inv X l L H s)(h:qz X.K H a xs)(B:qz X.K H a ys):xs=ys:=by
 obtain⟨t,r,⟨o,e,_,n,d⟩,_⟩:=I.tuple h;obtain⟨its',D,⟨E,j,_,J,u⟩,_⟩:=I.tuple B;rw[e]at j;cases j;rw[d]at u;injection u with M _
 have:t=its':=by grind
 subst this;exact r.inj D
end
abbrev Cx.wish(X:Cx)(E:Value->aH->Prop):Cx:={ X with xe:=E }
abbrev Cx.nox(X:Cx):Cx:=X.wish λ_ _=>False
def Cx.Ok.wish{X:Cx}(ok:X.Ok) E:(X.wish E).Ok :=
 ⟨ok.mod,ok.kind,ok.glob,ok.blt,ok.above,ok.inj,ok.has,ok.cab,ok.hd,ok.frames,ok.stk,ok.exf,ok.bs,ok.bsz,ok.noex,ok.exfs,ok.funs,ok.frf⟩
def Cx.Ok.unwish{X:Cx}(ok:(X.wish E).Ok):X.Ok :=
 ⟨ok.mod,ok.kind,ok.glob,ok.blt,ok.above,ok.inj,ok.has,ok.cab,ok.hd,ok.frames,ok.stk,ok.exf,ok.bs,ok.bsz,ok.noex,ok.exfs,ok.funs,ok.frf⟩
section
def Inv.wish(I:Inv X l B H s) E:Inv (X.wish E) l B H s:=⟨I.ok.wish E,I.os,I.bare,I.base,I.loc,I.cell,I.free,I.freeC,I.pin,I.hok,I.len⟩
def Inv.unwish(I:Inv (X.wish E) l B H s):Inv X l B H s:=⟨I.ok.unwish,I.os,I.bare,I.base,I.loc,I.cell,I.free,I.freeC,I.pin,I.hok,I.len⟩
def SP.unwish(h:SP (X.wish E) l D f s'):SP X l D f s':=by
 cases f with
 |ret u=>obtain⟨v,j,H,I,r,q⟩:=h;exact⟨v,j,H,I.unwish,r,q⟩
 |_=>obtain⟨j,H,I,q⟩:=h;exact⟨j,H,I.unwish,q⟩
def PSs.nox{st:List Stmt}(h:PSs X.nox st t):PSs X st t:=λj s l H D I hw =>
 fh (h j s l H D (I.wish _) hw) (λ_ _ q=>q.unwish) λ_ _ z=>d9 z
end
section
def Nv:TS:=λD j H=>D.nx j H
def UJ(t u:TS):TS:=λD j H=>t { D with nx:=u D } j H
def B2:PSs X [] Nv:=λ_ _ j H _ I h=>ji ⟨j,H,I,h⟩
variable{X:Cx}{st:Stmt}{pb:List Stmt}{t:TS}{u:TS} in theorem pss_cons (h1:PS X st t) (h2:PSs X pb u):PSs X (st::pb) (UJ t u):=by
 intro pins s σ H D I h;refine wpAny_execs_cons (pA (h1 pins s σ H { D with nx:=u D } I h) λf s1 q=>?_);cases f with
 |next =>
  obtain⟨σ',H',I',q⟩:=q;exact h2 pins s1 σ' H' D I' q
 |_=>exact q
def Z1{X:Cx}{st:Stmt}(h1:PS X st t):PSs X [st] t:=by
 intro j s l H D I h;refine wpAny_execs_cons (pA (h1 j s l H D I h) λf s1 q=>?_);cases f with
 |next=>exact ji q
 |_=>exact q
def Inv.quiet(I:Inv X l B H s):interactive X.env=U:=by simp[interactive,I.ok.kind]
def MN(te:TE):TS:=λD j H=>te j H λ_ l=>D.nx j l
def MO(he:PE X e te)(hs:c7 e O l.line X.env=pure U:=by rfl):PS X (.Expr e l) (MN te):=by
 intro j s t H D I h;exact wpAny_Expr_any (pA (he j s t H _ I h) λv s1 ⟨x,u,B,J,E⟩=>⟨t,u,B,E⟩) I.quiet hs
def UK(te:TE):TS:=λD j H=>te j H D.rt
def UL(he:PE X e te):PS X (.Return (Z e) B) (UK te):=by
 intro j s l H D I h;exact wpAny_Return_some (pA (he j s l H _ I h) λv s1 ⟨x,t,u,E,J⟩=>⟨x,l,t,u,E,J⟩)
def UM(c:TT)(t u:TS):TS:=λD j H=>c j H λb l=>if b=Y then t D j l else u D j l
def Nw(hc:PT X c tc)(L:PSs X a t)(M:PSs X b u):PS X (.If c a b zy) (UM tc t u):=by
 intro j s l H D I h;refine wpAny_If (pA (hc j s l H _ I h) λd s1 T=>?_);obtain⟨B,E,J⟩:=T;cases d with
 |true=>exact L j s1 l B D E J
 |false=>exact M j s1 l B D E J
def HG:TS:=λ_ _ _=>False
def wm{X:Cx}{st:Stmt}:PS X st HG:=λ_ _ _ _ _ _ h=>h.elim
end
abbrev TG:=V->St->Hp->(St->Hp->Prop)->Prop
abbrev Nx:=List V->St->Hp->(St->Hp->Prop)->Prop
def PG(X:Cx)(target:Expr)(t:TG):Prop :=
 ∀j s (B:St) H v u Q,Inv X j B H s->pq v u->t v B H Q ->
  aE (model X.prog X.w) X.A (assign target X.env u) (λ_ s'=>∃l D,Inv X j l D s'/\Q l D) X.xe s
def Sj(X:Cx)(D:List Expr)(t:Nx):Prop :=
 ∀j s (u:St) H vs us Q,Inv X j u H s->o4 vs us->t vs u H Q ->
  aE (model X.prog X.w) X.A (assignInOrder ((gQ D X.env).map (·.2)) us) (λ_ s'=>∃l B,Inv X j l B s'/\Q l B) X.xe s
abbrev Z2:=V->V->Hp->VK->Prop
def PIp(X:Cx)(B:Operator)(t:Z2):Prop :=
 ∀j s (l:St) H x y v u Q,Inv X j l H s->pq x v->pq y u->t x y H Q ->
  aE (model X.prog X.w) X.A (kJ B v u) (EP X j l Q) X.xe s
section
def Gu(i:Nat):TG:=λv j H Q=>Q (j.set i (Z v)) H
def B3(l:X.N.Nodup)(B:X.N[i]?=Z x)(D:BC X.env.scope x)(hf:X.fn x=Y\/X.env.scope.names.lookup x=Z .local:=by first | exact .inl rfl | exact .inr rfl | assumption):PG X (.Name x L) (Gu i):=by
 intro j s E H v u Q I r h;exact wpAny_assign_Name (UB I l B D r (λs' t=>⟨_,H,t,h⟩) hf)
def HH:Nx:=λvs j H Q=>vs=[]/\Q j H
def MP(t:TG)(u:Nx):Nx:=λvs l H Q=>∃v r,vs=v::r/\t v l H λj B=>u r j B Q
def B4:Sj X [] HH:=by
 intro j s l H vs us Q I r h;obtain⟨e,h⟩:=h;subst e;cases r;exact assignInOrder_nil ⟨l,H,I,h⟩
def wo(h1:PG X e t)(h2:Sj X l u)(hs:(gQ (e::l) X.env).map (·.2)=assign e X.env::(gQ l X.env).map (·.2):=by rfl):Sj X (e::l) (MP t u):=by
 intro j s D H vs us Q I r h;obtain⟨v,T,e1,h⟩:=h;subst e1;cases r with
 |cons r E =>
  rw[hs];refine assignInOrder_cons (pA (h1 j s D H _ _ _ I r h) λ_ s1 J=>?_);obtain⟨B,L,M,zy⟩:=J;exact h2 j s1 B L _ _ Q M E zy
def HI(K:ab)(n:Nat)(t:Nx):TG:=λv j H Q=>∃a xs,v = .ref a/\qz K H a xs/\xs.length=n/\t xs j H Q
def HJ(hc:X.calm=Y)(h:Sj X l t)(L:(gQ l X.env).length=n:=by rfl)(B:(gQ l X.env).findIdx? (·.1)=O:=by rfl):PG X (.Tuple l k M) (HI X.K n t):=by
 intro j s D H v u Q I r hw;obtain⟨a,xs,e1,hq,J,hw⟩:=hw;subst e1;cases r;obtain⟨zx,E,T,hz⟩:=I.tuple hq;refine assign_Tuple_tuple (I.ok.hd hc) T (by simp[L,<-J,E.length]) B λzw zy=>?_;have I1:Inv X j D H { s with heap:=zw }:=I.kept (t':=s.toks) λb o e=>zy b o (aM (aC e)) e;exact h j _ D H xs _ Q I1 (by simpa using E) hw
def Ny(te:TE)(g:TG):TS:=λD j H=>te j H λx l=>g x j l D.nx
def HK(he:PE X e te)(L:PG X l g)(hs:mO [l] e B.line X.env=pure U:=by rfl)(hw:mP [l] e X.env=pure O:=by rfl)(h1:(gQ [l] X.env).map (·.2)=[assign l X.env]:=by rfl):PS X (.Assign [l] e B) (Ny te g):=by
 intro j s t H D I h;refine wpAny_Assign_stores (pA (he j s t H _ I h) λv s1 u=>?_) hs hw;obtain⟨x,E,J,M,zy⟩:=u;rw[h1];exact pA (L j s1 t E x v _ J M zy) λ_ s2 q=>q
def wq(L:X.N.Nodup)(M:X.N[i]?=Z x)(zx:BC X.env.scope x)(he:PE X e te)(hs:c7 e (Z (.Name x l)) B.line X.env=pure U:=by rfl)(hf:X.fn x=Y\/X.env.scope.names.lookup x=Z .local:=by first | exact .inl rfl | exact .inr rfl | assumption) :
  PS X (.Assign [.Name x l] e B) (Ny te (Gu i)):=by
 intro j s t H D I h;refine wpAny_Assign_Name (pA (he j s t H _ I h) λv s1 u=>?_) hs;obtain⟨y,E,J,T,zw⟩:=u;exact UB J L M zx T (λs2 zy=>⟨_,E,zy,zw⟩) hf
def UN(i:Nat)(te:TE)(ti:Z2):TS:=λD j H=>∃x,j[i]?=Z (Z x)/\te j H λy l=>ti x y l λz t=>D.nx (j.set i (Z z)) t
def HL(hN:X.N.Nodup)(T:X.N[i]?=Z x)(L:BC X.env.scope x)(he:PE X e te)(ho:PIp X zw ti)(hf:X.fn x=Y\/X.env.scope.names.lookup x=Z .local:=by first | exact .inl rfl | exact .inr rfl | assumption) :
  PS X (.AugAssign (.Name x zy) zw e av) (UN i te ti):=by
 intro j s σ H D I h;obtain⟨v,e1,h⟩:=h;obtain⟨m,hn,hl⟩:=I.loc;have M:Si X.env.scope x:=by rcases L with k | k;exact .inl k;exact .inr (.inl k)
 obtain⟨u,r,l⟩:=hl i x v T e1 M;refine wpAny_AugAssign_Name ?_;have go:aE (model X.prog X.w) X.A (eval e X.env) (λw E=>aE (model X.prog X.w) X.A (kJ zw u w) (λr J=>aE (model X.prog X.w) X.A (storeName X.env x r) (λ_=>SP X j D .next) X.xe J) X.xe E) X.xe s:=by
  refine pA (he j s σ H _ I h) λw s1 zx=>?_;obtain⟨y,H1,I1,r1,q1⟩:=zx;refine pA (ho j s1 σ H1 v y u w _ I1 r r1 q1) λz s2 zx=>?_;obtain⟨zv,H2,I2,r2,q2⟩:=zx;exact UB I2 hN T L r2 (λs3 I3=>⟨_,H2,I3,q2⟩) hf
 rcases l with⟨t,hm⟩|⟨t,c,hc,B⟩
 .exact ox I.ok.kind t hn hm go
 .rcases t with t | t
  .exact wpAny_loadName_cell I.ok.kind t hc B go
  .rcases L with k | k
   .have:X.env.scope.names.lookup x=Z .free:=t;rw[k]at this;cases this
   .have:X.env.scope.names.lookup x=Z .free:=t;rw[k]at this;cases this
end
section
def HM(c:TT)(I:TS):TS:=λD j H=>∃W:Nat->St->Hp->Prop,(∃m,W m j H)/\∀m j H,W m j H ->
 c j H λb t=>if b=Y then ∃N ,(∀l u,N l u->∃B,B<m/\W B l u)/\I { D with nx:=N,ct:=N,bk:=D.nx } j t else D.nx j t
def wt(zw:jJ (model X.prog X.w) X.A X.env X.xe)(hc:PT X c tc)(hb:PSs X body tb):PS X (.While c body [] av) (HM tc tb):=by
 intro j s σ H D I h;obtain⟨W,⟨m0,w0⟩,turn⟩:=h;refine wpAny_While (codeAny_whileLoop (λn s'=>∃u zy,Inv X j u zy s'/\W n u zy) ?_ m0 ⟨σ,H,I,w0⟩);rintro n s1 ⟨t,H1,I1,w1⟩;refine fH zw (pA (hc j s1 t H1 _ I1 (turn n t H1 w1)) λb s2 zz=>?_);obtain⟨H2,I2,E⟩:=zz;cases b with
 |true =>
  obtain⟨N,hN,E⟩:=E;refine fH zw (pA (hb j s2 t H2 _ I2 E) λf s3 J=>?_);cases f with
  |next =>
   obtain⟨l,B,L,M⟩:=J;obtain⟨zx,hm,T⟩:=hN l B M;exact⟨zx,hm,l,B,L,T⟩
  |cont =>
   obtain⟨l,B,L,M⟩:=J;obtain⟨zx,hm,T⟩:=hN l B M;exact⟨zx,hm,l,B,L,T⟩
  |brk=>exact J
  |ret v=>exact J
 |false =>
  exact ji ⟨t,H2,I2,E⟩
end
structure It where
 go:Nat->Hp->Prop
 yld:Nat->Hp->V->Hp->Prop
 stop:Nat->Hp->Prop
def qp(X:Cx)(l:List (Addr×Obj))(H:Hp)(b:Addr):Prop :=
 H b=O/\b≠X.env.locals/\b∉X.fs/\(b∈X.ex\/X.s₀.heap.objs.size<=b)/\(∀x c,X.env.cells.lookup x=Z c->c≠b)/\∀p∈X.pn++l,p.1≠b
def Inv.fpOk(I:Inv X l M H s)(B:s.heap.objs.size<=b)(D:L b=O):qp X l L b:=by
 refine⟨D,fo (aF I.lt B),I.nofs B,.inr (aY I.sz B),λx c e z=>?_,λp j z=>?_⟩
 .obtain⟨v,q⟩:=I.cell x c e;exact absurd (aF q.lt (by rw[z];exact B)) (cp _)
 .exact absurd (aF (aC (I.pin p j).1) (by rw[z];exact B)) (cp _)
structure rW (P:bh) (w:cg) (K:ab) (tg:Expr) (J:It) (fp:List Addr) (it:Addr) (tn:Nat->Heap->Prop):Prop where
 mem:it∈fp
 obj:∀i h,tn i h->∀b∈fp,∃o,h.get? b=Z o/\∀v,o.data≠.cell v
 keep:∀i h h',tn i h->(∀b∈fp,∀o,h.get? b=Z o->h'.get? b=Z o)->tn i h'
 item:∀(X:Cx),X.prog=P->X.w=w->X.K=K->X.calm=Y->∀(i:Nat)(pins:List (Addr×Obj))(s:aH)(σ:St)(H:Hp)(E:Value->aH->Prop),Inv X pins σ H s->(∀b∈fp,qp X pins H b)->tn i s.heap->J.go i H ->
  aE (model P w) X.A (iu (.ref it)) (λr s1=>∃u,r=Z u /\
   aE (model P w) X.A (lf tg (.ref it) u) (λ_ s2=>∃x H',Inv X pins σ H' s2/\pq x u/\J.yld i H x H'/\tn (i+1) s2.heap/\∀b∈fp,H' b=O) E s1) E s
 done:∀(X:Cx),X.prog=P->X.w=w->X.K=K->X.calm=Y->∀(i:Nat)(pins:List (Addr×Obj))(s:aH)(σ:St)(H:Hp)(E:Value->aH->Prop),Inv X pins σ H s->(∀b∈fp,qp X pins H b)->tn i s.heap->J.stop i H ->
  aE (model P w) X.A (iu (.ref it)) (λr s1=>r=O/\Inv X pins σ H s1) E s
 self:∀(A:dI)(i:Nat)(s:aH)(Q:Value->aH->Prop)(E:Value->aH->Prop),tn i s.heap->Q (.ref it) s->aE (model P w) A (lT (.ref it)) Q E s
abbrev TI:=St->Hp->(It->Hp->Prop)->Prop
def Z3(X:Cx)(l:List (Addr×Obj))(D:St)(I:Expr)(R:It->Hp->Prop)(B:Value)(s2:aH):Prop :=
 ∃(it:Addr)(j:List Addr)(t:Nat->Heap->Prop)(J:It)(H:Hp),B = .ref it/\Inv X l D H s2/\rW X.prog X.w X.K I J j it t/\t 0 s2.heap/\(∀b∈j,qp X l H b)/\R J H
def PI(X:Cx)(B iter:Expr)(D:TI):Prop :=
 ∀j s (l:St) H R,Inv X j l H s->D l H R ->
  aE (model X.prog X.w) X.A (eval iter X.env) (λv s1=>aE (model X.prog X.w) X.A (lT v) (Z3 X j l B R) X.xe s1) X.xe s
def MQ(ho:s.heap.get? it=Z o)(hc:o.cls = .type n)(hd:o.data = .fields vs)(D:["enumerate","zip","dict_itemiterator","dict_reverseitemiterator","odict_iterator","itertools.zip_longest","itertools.pairwise"].contains n=U)(l:Q () s):aE M A (lf B (.ref it) u) Q E s:=by
  cases B<;>first
    |exact af l
    | (cases u<;>first
        |exact af l
        | (refine aa (lN ho ?_)
           rw[hc,hd];show aE M A (if (["enumerate","zip","dict_itemiterator","dict_reverseitemiterator","odict_iterator","itertools.zip_longest","itertools.pairwise"].contains n&&vs[0]?==Z (cD _))=Y then _ else _) Q E s;rw[aN (by grind)];exact af l))
def Z4(K:ab)(a:Addr):It :=
 ⟨λi H=>∃xs x,qg K H a xs/\xs[i]?=Z x,λi H x j=>j=H/\∀xs,qg K H a xs->xs[i]?=Z x,λi H=>∃xs,qg K H a xs/\xs.length<=i⟩
def Z5(K:ab)(a:Addr):It :=
 ⟨λi H=>∃xs x,qz K H a xs/\xs[i]?=Z x,λi H x j=>j=H/\∀xs,qz K H a xs->xs[i]?=Z x,λi H=>∃xs,qz K H a xs/\xs.length<=i⟩
def Sk(lo:Int)(n:Nat):It:=⟨λi _=>i<n,λi H x j=>j=H/\x = .int (lo+i),λi _=>n<=i⟩
def QlJ{K:ab} a it:rW P w K tg (Z4 K a) [it] it (λi h=>h.IsListIter it a i) where
 mem:=by simp
 obj:=λi h st b j=>by
  have e :=by simpa using j
  subst e;obtain⟨o,e,c,d⟩:=st;exact⟨o,e,λv z=>by rw[d]at z;cases z⟩
 keep:=λi h h' st k=>st.at λo e=>k it (by simp) o e
 item:=by
  intro X B hw D hc i l s σ H E I hf st J;subst B hw D;obtain⟨xs,x,hq,L⟩:=J;obtain⟨M,zx,p,hz⟩:=I.list hq;obtain⟨u,hu,ru⟩:=zx.get L;obtain⟨f0,T,f2,zw,zy,f5⟩:=hf it (by simp);refine wpAny_pyNext_list_item st p.isList (by simpa using hu) λh' t sb=>?_;have I1 :=I.turned (t':=s.toks) (λb o j e=>(sb.2 b j).trans e) f0 T zw zy f5;obtain⟨o,e,c,d⟩:=id t;exact⟨u,rfl,MQ e c d (by decide) ⟨x,H,I1,ru,⟨rfl,λys hy=>by rw[I.list_inj hy hq];exact L⟩,t,λb j=>(hf b j).1⟩⟩
 done:=by
  intro X B hw D hc i l s σ H E I hf st J;subst B hw D;obtain⟨xs,hq,L⟩:=J;obtain⟨M,zx,p,hz⟩:=I.list hq;obtain⟨f0,T,f2,zw,zy,f5⟩:=hf it (by simp);have hl:=zx.length;exact wpAny_pyNext_list_end (I.ok.hd hc) st p.isList (by simp;lia) λh' eb=>⟨rfl,I.turned (λb o j e=>eb b o j e) f0 T zw zy f5⟩
 self:=λ_ _ _ _ _ st h=>wpAny_pyIter_listiter st h
def Qjb{K:ab} a it:rW P w K tg (Z5 K a) [it] it (λi h=>h.IsTupleIter it a i) where
 mem:=by simp
 obj:=λi h st b l=>by
  have e:b=it:=by simpa using l
  subst e;obtain⟨o,e,c,d⟩:=st;exact⟨o,e,λv z=>by rw[d]at z;cases z⟩
 keep:=λi h D st k=>st.at λo e=>k it (by simp) o e
 item:=by
  intro X J hw L hc i j s σ H E I hf st M;subst J hw L;obtain⟨xs,x,hq,zx⟩:=M;obtain⟨t,T,p,hz⟩:=I.tuple hq;obtain⟨u,hu,ru⟩:=T.get zx;obtain⟨f0,zw,f2,zy,f4,f5⟩:=hf it (by simp);refine wpAny_pyNext_tuple_item st (show s.heap.IsTuple a t.toArray from p) (x:=u) (by simpa using hu) λD B sb=>?_;have I1:Inv X j σ H { s with heap:=D }:=I.turned (t':=s.toks) (λb o l e=>(sb.2 b l).trans e) f0 zw zy f4 f5;obtain⟨o,e,c,d⟩:=id B;exact⟨u,rfl,MQ (s:={ s with heap:=D }) e c d (by decide) ⟨x,H,I1,ru,⟨rfl,λys hy=>by rw[I.tuple_inj hy hq];exact zx⟩,B,λb l=>(hf b l).1⟩⟩
 done:=by
  intro X J hw L hc i j s σ H E I hf st M;subst J hw L;obtain⟨xs,hq,zx⟩:=M;obtain⟨t,T,p,hz⟩:=I.tuple hq;obtain⟨f0,zw,f2,zy,f4,f5⟩:=hf it (by simp);have hl:=T.length;exact wpAny_pyNext_tuple_end (I.ok.hd hc) st (show s.heap.IsTuple a t.toArray from p) (by simp;omega) λD eb=>⟨rfl,I.turned (t':=s.toks) (λb o l e=>eb b o l e) f0 zw zy f4 f5⟩
 self:=λ_ _ _ _ _ st h=>wpAny_pyIter_tupleiter st h
def Qjc{K:ab} it lo n:rW P w K tg (Sk lo n) [it] it (λi h=>IsRangeIter h it (lo+i*1) (n-i) 1) where
 mem:=by simp
 obj:=λi h st b l=>by
  have e :=by simpa using l
  subst e;exact⟨_,st,λv z=>by
   have z' :=z;cases z'⟩
 keep:=λi h B st k=>k it (by simp) _ st
 item:=by
  intro X T hw zw hc i j s zy H E I hf st D;subst T hw zw;obtain⟨f0,J,f2,L,M,zx⟩:=hf it (by simp);have W:=Walks.range (prog:=X.prog) (w:=X.w) (I.ok.hd hc) it lo 1 n;refine W.item i s _ _ D st λv B tk hv u kk=>?_;obtain⟨t,rfl⟩:=hv;have I1:Inv X j zy H { s with heap:=B,toks:=tk }:=I.turned (λb o l e=>kk b o (by simpa using l) e) f0 J L M zx;refine⟨_,rfl,MQ u rfl rfl (by decide) ⟨.int (lo+i),H,I1,⟨t,?_⟩,⟨rfl,rfl⟩,u,λb l=>(hf b l).1⟩⟩;rw[Int.mul_one]
 done:=by
  intro X T hw zw hc i j s zy H E I hf st D;obtain⟨f0,J,f2,L,M,zx⟩:=hf it (by simp);exact nI (I.ok.hd hc) st (by have:n<=i:=D;lia) λB eb=>⟨rfl,I.turned (λb o l e=>eb b o l e) f0 J L M zx⟩
 self:=λ_ _ _ _ _ st h=>nK st h
section
def Nz(K:ab)(tl:TE):TI:=λl H R=>tl l H λx j=>∃a,x = .ref a/\(∃xs,qg K j a xs)/\R (Z4 K a) j
def UO(K:ab)(tl:TE):TI:=λl H R=>tl l H λx j=>∃a,x = .ref a/\(∃xs,qz K j a xs)/\R (Z5 K a) j
def B5(B:PE X l tl):PI X zy l (Nz X.K tl):=by
 intro j s u H R I h;refine pA (B j s u H _ I h) λv s1 D=>?_;obtain⟨x,E,t,J,L⟩:=D;obtain⟨a,e,⟨xs,hq⟩,q⟩:=L;subst e;cases J;obtain⟨M,T,p,hz⟩:=t.list hq;refine gF p.isList ?_;refine⟨s1.heap.objs.size,[s1.heap.objs.size],_,_,E,rfl,t.kept λb o e=>ae _ e,QlJ a _,⟨_,ar _ rfl,rfl,rfl⟩,λb zx=>?_,q⟩;have e:b=s1.heap.objs.size:=by grind
 subst e;exact t.fpOk (au _) (t.hok.fresh (au _))
def HN(B:PE X l tl):PI X zy l (UO X.K tl):=by
 intro j s u H R I h;refine pA (B j s u H _ I h) λv s1 D=>?_;obtain⟨x,E,t,J,L⟩:=D;obtain⟨a,e,⟨xs,hq⟩,q⟩:=L;subst e;cases J;obtain⟨M,T,p,hz⟩:=t.tuple hq;refine eG (p) ?_;refine⟨s1.heap.objs.size,[s1.heap.objs.size],_,_,E,rfl,t.kept λb o e=>ae _ e,Qjb a _,⟨_,ar _ rfl,rfl,rfl⟩,λb zx=>?_,q⟩;have e:b=s1.heap.objs.size:=by grind
 subst e;exact t.fpOk (au _) (t.hok.fresh (au _))
def wu{lo l:Int}(I:Inv X B D H s)(h1 : -(2^62)<=lo)(h2:lo<2^62)(h3 : -(2^62)<=l)(L:l<2^62)(q:R (Sk lo (l-lo).toNat) H):aE (model X.prog X.w) X.A (lT (.ref s.heap.objs.size)) (Z3 X B D M R) E { s with heap:=s.heap.push { cls := .type "range",data := .fields #[.int lo t,.int l u,.int 1 v] },toks:=tk }:=by
 refine wpAny_pyIter_range (IsRange.new ..) (small_one h1 h2 h3 L) ?_;have j:Inv X B D H { s with heap:=s.heap.push { cls := .type "range",data := .fields #[.int lo t,.int l u,.int 1 v] },toks:=tk }:=I.kept λb o e=>ae _ e;refine⟨(s.heap.push { cls := .type "range",data := .fields #[.int lo t,.int l u,.int 1 v] }).objs.size,[(s.heap.push { cls := .type "range",data := .fields #[.int lo t,.int l u,.int 1 v] }).objs.size],_,_,H,rfl,
  j.kept λb o e=>ae _ e,Qjc _ lo (l-lo).toNat,?_,λb J=>?_,q⟩
 .have e1:lo+((0:Nat))*1=lo:=by simp
  have e2:(((l-lo).toNat))-((0:Nat))=fB lo l 1:=by grind[rangeSize_one]
  rw[e1,e2];exact ar _ rfl
 .have e:b=(s.heap.push { cls := .type "range",data := .fields #[.int lo t,.int l u,.int 1 v] }).objs.size:=by grind
  subst e;exact j.fpOk (au _) (j.hok.fresh (au _))
def NA(l:TA):TI:=λt H R=>l t H λvs u=>∃j ,vs=[.int j] /\ -(2^62)<=j/\j<2^62/\R (Sk 0 j.toNat) u
def Z6(D:Gl X "range")(hm:X.mg "range"=O)(L:PA X [a] M)(hs:ah [a] X.env=[(U,eval a X.env)]:=by rfl):PI X tg (.Call (.Name "range" p) [a] [] B) (NA M):=by
 intro l s E H R I h;refine Call_ (B0 I D hm boot_range (cH (pA (L B l s E H _ I h) λus s1 J=>?_) hs rfl));obtain⟨vs,H1,zx,T,u⟩:=J;obtain⟨j,e,u,zw,q⟩:=u;subst e;cases T with
 |cons r zy =>
  cases zy;obtain⟨t,rfl⟩:=r;exact call_range_1 (wu zx (by lia) (by lia) u zw (by simpa using q))
def UP(I:TI)(g:TG)(L:TS):TS:=λD j H=>I j H λJ E=>∃W:Nat->Nat->St->Hp->Prop,(∃m,W 0 m j E)/\∀i m j H,W i m j H ->
 (J.stop i H/\D.nx j H)\/(J.go i H/\∃N ,(∀l t,N l t->∃B,B<m/\W (i+1) B l t)/\∀x t,J.yld i H x t->g x j t λu M=>L { D with nx:=N,ct:=N,bk:=D.nx } u M)
def NB(l:List Addr)(h:Heap):List (Addr×Obj):=l.filterMap λb=>(h.get? b).map λo=>(b,o)
def Sl(l:b∈B)(e:h.get? b=Z o):(b,o)∈NB B h:=bR.mpr ⟨b,l,by rw[e];rfl⟩
def Qmm(l:p∈NB B h):p.1∈B/\h.get? p.1=Z p.2:=by
 obtain⟨b,j,e⟩:=bR.mp l;cases q:h.get? b with
 |none=>rw[q]at e;cases e
 |some o =>
  rw[q]at e;have t :=bi e;subst t;exact⟨j,q⟩
def Inv.pinned(I:Inv X l D H s)(hf:∀b∈B,qp X l H b)(ho:∀b∈B,∃o,s.heap.get? b=Z o/\∀v,o.data≠.cell v):Inv X (l++NB B s.heap) D H s :=
 I.pins_of λp u=>(aS.mp u).elim (λz=>I.pin p (bx _ z)) λz=>by
  obtain⟨j,e⟩:=Qmm z;obtain⟨f0,E,J,_⟩:=hf p.1 j;obtain⟨o,t,d⟩:=ho p.1 j;rw[e]at t;cases t;exact⟨e,f0,E,J,d⟩
def Inv.unpinned(I:Inv X (l++D) B H s):Inv X l B H s:=I.pins_of λp j=>I.pin p (bx _ (c9 _ j))
def ww(hp:jJ (model X.prog X.w) X.A X.env X.xe)(hc:X.calm=Y)(hi:PI X tg iter wi)(hg:PG X tg g)(B:PSs X body tb)(hs:∀x,cC iter X.env x=pure x:=by intro _;rfl):PS X (.For tg iter body [] bv) (UP wi g tb):=by
 intro j s σ H D I h;refine wpAny_For (pA (hi j s σ H _ I h) λv s1 h1=>pA h1 λbz s2 h2=>?_) hs;obtain⟨it,fp,tn,J,H2,e,I2,T,aj,f2,W,⟨m0,w0⟩,turn⟩:=h2;subst e
 -- what stays Y of the iterator's objects through the loop
 have t:∀{zw:Hp},(∀b∈fp,zw b=O)->∀b∈fp,qp X j zw b:=λhn b B=>⟨hn b B,(f2 b B).2⟩
 refine codeAny_forLoop_any (λn s'=>∃i E zw,Inv X j E zw s'/\tn i s'.heap/\(∀b∈fp,zw b=O)/\W i n E zw) ?_ m0 ⟨0,σ,H2,I2,aj,λb B=>(f2 b B).1,w0⟩;rintro n s3 ⟨i,L,H3,I3,az,aq,w3⟩;rcases turn i n L H3 w3 with⟨stop,qn⟩|⟨go,N,hN,step⟩
 .refine fH hp (pA (T.done X rfl rfl rfl hc i j s3 L H3 X.xe I3 (t aq) az stop) λr s4 ⟨hr,I4⟩=>?_);subst hr;exact ji ⟨L,H3,I4,qn⟩
 .refine fH hp (pA (T.item X rfl rfl rfl hc i j s3 L H3 X.xe I3 (t aq) az go) λr s4 zz=>?_);obtain⟨u,hr,h4⟩:=zz;subst hr;refine fH hp (pA h4 λ_ s5 zz=>?_);obtain⟨x,H5,I5,r5,y5,av,ak⟩:=zz;have aJ:=I5.pinned (t ak) (T.obj _ _ av);refine fH hp (pA (hg _ s5 L H5 x u _ aJ r5 (step x H5 y5)) λ_ s6 zz=>?_);obtain⟨aZ,H6,I6,q6⟩:=zz;refine fH hp (pA (B _ s6 aZ H6 _ I6 q6) λf s7 zy=>?_);have again:∀{l:St}{M:Hp},Inv X (j++NB fp s5.heap) l M s7->N l M->∃m,m<n/\∃i E zw,Inv X j E zw s7/\tn i s7.heap/\(∀b∈fp,zw b=O)/\W i m E zw:=λ{l M} zx n7=>by
   obtain⟨m',hm,w7⟩:=hN l M n7;refine⟨m',hm,i+1,l,M,zx.unpinned,T.keep _ _ _ av λb B o e=>(zx.pin (b,o) (bx _ (bx _ (Sl B e)))).1,λb B=>?_,w7⟩;obtain⟨o,e,d⟩:=T.obj _ _ av b B;exact(zx.pin (b,o) (bx _ (bx _ (Sl B e)))).2.1
  cases f with
  |brk=>obtain⟨l,M,zx,zy⟩:=zy;exact⟨l,M,zx.unpinned,zy⟩
  |ret v=>obtain⟨x7,l,M,zx,r7,zy⟩:=zy;exact⟨x7,l,M,zx.unpinned,r7,zy⟩
  |_=>obtain⟨l,M,zx,n7⟩:=zy;exact again zx n7
end
abbrev R2:=V->V->Hp->VK->Prop
def qH(X:Cx)(f:Value->Value->Sem Value)(r:R2):Prop :=
 ∀j s (l:St) H x y v u Q,Inv X j l H s->pq x v->pq y u->r x y H Q ->
  aE (model X.prog X.w) X.A (f v u) (EP X j l Q) X.xe s
def Sm(X:Cx)(f:Value->Sem Value)(r:V->Hp->VK->Prop):Prop :=
 ∀j s (l:St) H x v Q,Inv X j l H s->pq x v->r x H Q ->
  aE (model X.prog X.w) X.A (f v) (EP X j l Q) X.xe s
def Yy(X:Cx)(f:Value)(r:List V->Hp->VK->Prop):Prop :=
 ∀j s (l:St) H xs us Q,Inv X j l H s->o4 xs us->r xs H Q ->
  aE (model X.prog X.w) X.A (call f us) (EP X j l Q) X.xe s
def UQ(X:Cx)(r:V->Hp->(Bool->Hp->Prop)->Prop):Prop :=
 ∀j s (l:St) H x v Q,Inv X j l H s->pq x v->r x H Q ->
  aE (model X.prog X.w) X.A (truthy v) (TP X j l Q) X.xe s
def MR(r:R2)(l B:TE):TE:=λj H Q=>l j H λx t=>B j t λy u=>r x y u Q
def tUn(r:V->Hp->VK->Prop)(l:TE):TE:=λj H Q=>l j H λx t=>r x t Q
def rI(C:Int->Int->Prop)(g:Int->Int->V):R2:=λx y H Q=>∃i j,x = .int i/\y = .int j/\C i j/\Q (g i j) H
def v7(g:Int->Int->V):R2:=λx y H Q=>∃i j,x = .int i/\y = .int j/\Q (g i j) H
def rU(g:Int->V):V->Hp->VK->Prop:=λx H Q=>∃i,x = .int i/\Q (g i) H
section
def HP(T:PE X a zw)(zy:PE X b tb){R:V->V->Hp->Prop}(I:Inv X l D H s)(h:zw D H λx zx=>tb D zx λy B=>R x y B){f:Value->Value->Sem Value}(hf:∀v u s2 x y B,Inv X l D B s2->pq x v->pq y u->R x y B->aE (model X.prog X.w) X.A (f v u) Q X.xe s2) :
  aE (model X.prog X.w) X.A (eval a X.env) (λv L=>aE (model X.prog X.w) X.A (eval b X.env) (λu M=>aE (model X.prog X.w) X.A (f v u) Q X.xe M) X.xe L) X.xe s:=by
 refine pA (T l s D H _ I h) λv s1 j=>?_;obtain⟨x,zx,t,E,J⟩:=j;refine pA (zy l s1 D zx _ t J) λu s2 j=>?_;obtain⟨y,B,I2,r2,q2⟩:=j;exact hf v u s2 x y B I2 E r2 q2
def wx(ho:qH X (cu l) r)(B:PE X a D)(L:PE X b M):PE X (.BinOp a l b zy) (MR r D M):=by
 intro j s t H Q I h;exact wpAny_BinOp (HP B L I h λv u s2 x y E J T zx q=>ho j s2 t E x y v u Q J T zx q)
def Gv(ho:Sm X (unaryOp B) r)(D:PE X a L):PE X (.UnaryOp B a M) (tUn r L):=by
 intro j s l H Q I h;exact UnaryOp_ (pA (D j s l H _ I h) λv s1 ⟨x,t,u,E,J⟩=>ho j s1 l t x v Q u E J)
def NC{g:Int->Int->Int}(rule:∀i j t u s Q E,C i j->Q (.int (g i j) s.toks) { s with toks:=s.toks+1 }->aE (model X.prog X.w) X.A (f (.int i t) (.int j u)) Q E s) :
  qH X f (rI C λi j=>.int (g i j)):=by
 intro l s J H x y v u Q I B D h;obtain⟨i,j,rfl,rfl,hc,q⟩:=h;obtain⟨t,rfl⟩:=B;obtain⟨t',rfl⟩:=D;exact rule i j t t' s _ _ hc ⟨.int (g i j),H,I.tok _,⟨_,rfl⟩,q⟩
def wy{g:Int->Int->Int}(rule:∀i j t u s Q E,Q (.int (g i j) s.toks) { s with toks:=s.toks+1 }->aE (model X.prog X.w) X.A (f (.int i t) (.int j u)) Q E s) :
  qH X f (v7 λi j=>.int (g i j)):=by
 intro l s J H x y v u Q I B D h;obtain⟨i,j,rfl,rfl,q⟩:=h;obtain⟨t,rfl⟩:=B;obtain⟨t',rfl⟩:=D;exact rule i j t t' s _ _ ⟨.int (g i j),H,I.tok _,⟨_,rfl⟩,q⟩
def B6{g:Int->Int->Bool}(rule:∀i j t u s Q E,Q (.bool (g i j)) s->aE (model X.prog X.w) X.A (f (.int i t) (.int j u)) Q E s) :
  qH X f (v7 λi j=>.bl (g i j)):=by
 intro l s J H x y v u Q I B D h;obtain⟨i,j,rfl,rfl,q⟩:=h;obtain⟨t,rfl⟩:=B;obtain⟨t',rfl⟩:=D;exact rule i j t t' s _ _ ⟨.bl (g i j),H,I,rfl,q⟩
def UR(i j:Int):Prop:=0<=j/\j<=1000000/\i.natAbs<2^64
def B7(i j:Int):Prop:=(-(2^64)<i/\i<2^64)\/(-(2^64)<j/\j<2^64)
def B7.ok(h:B7 i j):IntMulOk i j:=by
 rcases h with⟨h1,h2⟩|⟨h1,h2⟩
 .exact .of_left (intBits_le_64 h1 h2)
 .exact .of_right (intBits_le_64 h1 h2)
def Qja k:(0:Int)<=2^k:=by
 exact nh _
def HQ:qH X (cu .Add) (v7 λi j=>.int (i+j)):=wy λ_ _ _ _ _ _ _ q=>add_int q
def HR:qH X (cu .Sub) (v7 λi j=>.int (i-j)):=wy λ_ _ _ _ _ _ _ q=>sub_int q
def HS:qH X (cu .Mult) (rI B7 λi j=>.int (i*j)):=NC λ_ _ _ _ _ _ _ hc q=>mul_int q hc.ok
def HU:qH X (cu .Mod) (rI (λ_ j=>0<j) λi j=>.int (i%j)):=NC λi j _ _ _ _ _ hc q=>by
 exact mod_int' (by lia) (by rw[Int.fmod_eq_emod_of_nonneg i (by lia)];exact q)
def HV:qH X (cu .LShift) (rI UR λi j=>.int (i*2^j.toNat)):=NC λ_ _ _ _ _ _ _ hc q=>lshift_int_small hc.1 hc.2.1 hc.2.2 q
def HW:qH X (cu .RShift) (rI (λ_ j=>0<=j) λi j=>.int (i/2^j.toNat)):=NC λi j _ _ _ _ _ hc q =>
 rshift_int hc (by rw[ky i (Qja _)];exact q)
def HX:qH X (cu .BitAnd) (v7 λi j=>.int (jE i j)):=wy λ_ _ _ _ _ _ _ q=>and_int q
def ND:qH X (cu .BitOr) (v7 λi j=>.int (gY i j)):=wy λ_ _ _ _ _ _ _ q=>or_int q
def HY:qH X (kJ .BitOr) (v7 λi j=>.int (gY i j)):=wy λ_ _ _ _ _ _ _ q=>ior_int q
def Z7{g:Int->Int}(rule:∀i t s Q E,Q (.int (g i) s.toks) { s with toks:=s.toks+1 }->aE (model X.prog X.w) X.A (f (.int i t)) Q E s) :
  Sm X f (rU λi=>.int (g i)):=by
 intro j s u H x v Q I l h;obtain⟨i,rfl,q⟩:=h;obtain⟨t,rfl⟩:=l;exact rule i t s _ _ ⟨.int (g i),H,I.tok _,⟨_,rfl⟩,q⟩
def HZ:Sm X (unaryOp .USub) (rU λi=>.int (-i)):=Z7 λ_ _ _ _ _ q=>neg_int q
def H0:Sm X (unaryOp .Invert) (rU λi=>.int (dA i)):=Z7 λ_ _ _ _ _ q=>invert_int q
end
section
def NE(I:Inv X l B H s)(q:Q (.bl k) H)(e:k=D):EP X l B Q (.bool D) s:=by
 subst e;exact⟨.bl k,H,I,rfl,q⟩
def NF:qH X (bO .Lt) (v7 λi j=>.bl (decide (i<j))):=B6 λ_ _ _ _ _ _ _ q=>lt_int q
def NG:qH X (bO .LtE) (v7 λi j=>.bl (decide (i<=j))):=B6 λ_ _ _ _ _ _ _ q=>le_int q
def NH:qH X (bO .Gt) (v7 λi j=>.bl (decide (j<i))):=B6 λ_ _ _ _ _ _ _ q=>gt_int q
def NI:qH X (bO .GtE) (v7 λi j=>.bl (decide (j<=i))):=B6 λ_ _ _ _ _ _ _ q=>ge_int q
def Ia:qH X (bO .Is) (λx y H Q=>y = .non/\Q (.bl (decide (x = .non))) H):=by
 intro j s D H x y v u Q I l B h;obtain⟨rfl,q⟩:=h;cases B;refine is_none_gen (NE I q ?_);cases x<;>first
  | (cases l;rfl)
  | (obtain⟨t,rfl⟩:=l;rfl)
def B8:qH X (bO .IsNot) (λx y H Q=>y = .non/\Q (.bl (!decide (x = .non))) H):=by
 intro j s D H x y v u Q I l B h;obtain⟨rfl,q⟩:=h;cases B;refine isnot_none_gen (NE I q ?_);cases x<;>first
  | (cases l;rfl)
  | (obtain⟨t,rfl⟩:=l;rfl)
def B9(ho:qH X (bO l) r)(B:PE X a D)(L:PE X b M)(hm:jR l b=U):PE X (.Compare a [l] [b] zy) (MR r D M):=by
 intro j s t H Q I h;exact wpAny_Compare1 (HP B L I h λv u s2 x y E J T zx q=>ho j s2 t E x y v u Q J T zx q) hm
def wz(t:TE):TT:=λj H Q=>t j H λx l=>∃k,x = .bl k/\Q k l
def Ca(ho:qH X (bO B) r)(D:PE X a L)(M:PE X b zx)(hm:jR B b=U):PT X (.Compare a [B] [b] T) (wz (MR r L zx)):=by
 intro j s l H Q I h;refine wpAny_isTrue_Compare1 (pA (D j s l H _ I h) λv s1 ⟨x,t,E,J,zw⟩=>pA (M j s1 l t _ E zw) λu s2 ⟨y,zy,I2,r2,q2⟩ =>
  pA (ho j s2 l zy x y v u _ I2 J r2 q2) λc s3 ⟨z,H3,I3,r3,k,e,q3⟩=>?_) hm
 subst e;cases r3;exact du ⟨H3,I3,q3⟩
def US(r B:R2)(D I tc:TE):TE:=λj H Q=>D j H λx t=>I j t λy u=>r x y u λz l=>∃k,z = .bl k /\
 (if k=Y then tc j l λE J=>B y E J Q else Q (.bl U) l)
def wA(ho:qH X (bO D) r)(B:qH X (bO l) zx)(T:PE X a zw)(zy:PE X b tb)(hc:PE X c tc)(hm:nu [D,l] [b,c]=U:=by with_unfolding_all rfl):PE X (.Compare a [D,l] [b,c] av) (US r zx zw tb tc):=by
 intro j s t H Q I h;refine Compare_chain (pA (T j s t H _ I h) λv s1 ⟨x,H1,I1,r1,q1⟩=>chain_link (pA (zy j s1 t H1 _ I1 q1) λu s2 ⟨y,H2,I2,E,q2⟩ =>
  pA (ho j s2 t H2 x y v u _ I2 r1 E q2) λd s3 ⟨z,J,L,r3,k,e,M⟩=>?_)) hm
 subst e;cases r3;refine du ?_;cases k with
 |false=>exact ite_ff ⟨.bl U,J,L,rfl,M⟩
 |true=>exact ite_tt (chain_last (pA (hc j s3 t J _ L M) λw' s4 ⟨z',H4,I4,r4,q4⟩=>B j s4 t H4 y z' u w' Q I4 E r4 q4))
def wB(ho:qH X (bO D) r)(B:qH X (bO l) zx)(T:PE X a zw)(zy:PE X b tb)(hc:PE X c tc)(hm:nu [D,l] [b,c]=U:=by with_unfolding_all rfl):PT X (.Compare a [D,l] [b,c] av) (wz (US r zx zw tb tc)):=by
 intro j s t H Q I h;refine isTrue_chain (pA (T j s t H _ I h) λv s1 ⟨x,H1,I1,r1,q1⟩=>test_link (pA (zy j s1 t H1 _ I1 q1) λu s2 ⟨y,H2,I2,E,q2⟩ =>
  pA (ho j s2 t H2 x y v u _ I2 r1 E q2) λd s3 ⟨z,J,L,r3,k,e,M⟩=>?_)) hm
 subst e;cases r3;refine du ?_;cases k with
 |false =>
  obtain⟨k',e',q'⟩:=M;cases e';exact ite_ff ⟨J,L,q'⟩
 |true =>
  refine ite_tt (test_last (pA (hc j s3 t J _ L M) λw' s4 ⟨z',H4,I4,r4,q4⟩=>pA (B j s4 t H4 y z' u w' _ I4 E r4 q4) λd' s5 zz=>?_));obtain⟨z2,H5,I5,r5,k2,e2,q5⟩:=zz;subst e2;cases r5;exact du ⟨H5,I5,q5⟩
def Ib(K:ab)(x:V)(H:Hp)(k:Bool):Prop :=
 match x with
 |.non=>k=U
 |.bl b=>k=b
 |.int i=>k=(i != 0)
 |.str y=>y.length<=aV/\k=((y.length:Int) != 0)
 |.byt y=>y.size<=aV/\k=((y.size:Int) != 0)
 |.ref p=>(∃xs,qg K H p xs/\k = !xs.isEmpty)\/(∃xs,qz K H p xs/\k = !xs.isEmpty)\/∃j,H p=Z (.dK j)/\k = !j.isEmpty
 |_=>False
def QjD(r:KV l vs):(!vs.isEmpty) = !l.isEmpty:=by
 cases r<;>rfl
def Z8(r:o4 xs l):(!l.toArray.isEmpty) = !xs.isEmpty:=by
 cases r<;>simp
def Sn:aV<2^63:=by decide
def Ic:UQ X (λx H Q=>∃k,Ib X.K x H k/\Q k H):=by
 intro L s zy H x v Q I B h;obtain⟨k,e,q⟩:=h;have hs:aV=16777216:=hh;cases x with
 |non =>
  cases B;have j:k=U:=e;subst j;exact truthy_none ⟨H,I,q⟩
 |bl b =>
  cases B;have j:k=b:=e;subst j;exact du ⟨H,I,q⟩
 |int i =>
  obtain⟨t,rfl⟩:=B;have j:k=(i != 0):=e;subst j;exact PySem.P.truthy_int ⟨H,I,q⟩
 |str y =>
  obtain⟨t,rfl⟩:=B;obtain⟨hy,j⟩:y.length<=aV/\k=((y.length:Int) != 0):=e;subst j;exact PySem.P.truthy_str (by lia) ⟨H,I.tok _,q⟩
 |byt y =>
  obtain⟨t,rfl⟩:=B;obtain⟨hy,j⟩:y.size<=aV/\k=((y.size:Int) != 0):=e;subst j;exact PySem.W.truthy_bytes (by lia) ⟨H,I.tok _,q⟩
 |ref p =>
  cases B;have j:(∃xs,qg X.K H p xs/\k = !xs.isEmpty)\/(∃xs,qz X.K H p xs/\k = !xs.isEmpty)\/∃l,H p=Z (.dK l)/\k = !l.isEmpty:=e;rcases j with⟨xs,D,j⟩|⟨xs,D,j⟩|⟨l,D,j⟩
  .subst j;obtain⟨E,r,J,hz⟩:=I.list D;have u:=r.length;exact wpAny_truthy_list J.isList (by simp only[aP];lia) ⟨H,I.tok _,by rw[Z8 r];exact q⟩
  .subst j;obtain⟨E,r,J,hz⟩:=I.tuple D;have u:=r.length;exact truthy_tuple J (by simp only[aP];lia) ⟨H,I.tok _,by rw[Z8 r];exact q⟩
  .subst j;obtain⟨hz,M,vs,r,m⟩:l.length<=aV/\(p==sysModules)=U/\∃vs,KV l vs/\s.heap.DictOf (Uz X.prog X.w) p vs:=I.hok p _ D;have u:l.length=vs.length:=Paired.length r;exact wpAny_truthy_dict M m (by lia) ⟨H,I.tok _,by rw[QjD r];exact q⟩
 |_=>exact(show False from e).elim
def wC(D:PE X a L)(he:∀whole,isTrue a X.env whole=(do let v <-whole;iO a.pos;holding [v] (truthy v))) :
  PT X a (λl H Q=>L l H λx B=>∃k,Ib X.K x B k/\Q k B):=by
 intro j s l H Q I h;exact isTrue_plain (pA (D j s l H _ I h) λv s1 ⟨x,t,u,E,J⟩=>Ic j s1 l t x v Q u E J) (he _)
def Qjo:qH X (cu .Add) (λx y H Q=>∃i j,x = .str i/\y = .str j/\i.length+j.length<=aV/\Q (.str (i++j)) H):=by
 intro l s E H x y v u Q I B D h;obtain⟨i,j,rfl,rfl,hz,q⟩:=h;obtain⟨t,rfl⟩:=B;obtain⟨t',rfl⟩:=D;exact add_str (λt' tk=>⟨.str (i++j),H,I.tok _,⟨_,rfl⟩,q⟩) hz
def Zx(r:o4 [x] us):∃u,us=[u]/\pq x u:=by
 cases r with
 |cons j l=>cases l;exact⟨_,rfl,j⟩
def wD(r:o4 [x,y] us):∃u l,us=[u,l]/\pq x u/\pq y l:=by
 cases r with
 |cons j t =>
  cases t with
  |cons B D=>cases D;exact⟨_,_,rfl,j,B⟩
def Qng(hc:X.calm=Y):Yy X (.builtin "max") (λxs H Q=>∃i j,xs=[.int i,.int j]/\Q (.int (if j>i then j else i)) H):=by
 intro B s D H xs us Q I r h;obtain⟨i,j,rfl,q⟩:=h;obtain⟨u,E,rfl,⟨t,rfl⟩,⟨t',rfl⟩⟩:=wD r;refine max_two_ints (I.ok.hd hc) λJ tk k=>⟨_,H,I.kept k,?_,q⟩
 by_cases l:j>i
 .rw[aw l,aw l];exact⟨_,rfl⟩
 .rw[aN l,aN l];exact⟨_,rfl⟩
def Qnf(hc:X.calm=Y):Yy X (.builtin "min") (λxs H Q=>∃i j,xs=[.int i,.int j]/\Q (.int (if j<i then j else i)) H):=by
 intro B s D H xs us Q I r h;obtain⟨i,j,rfl,q⟩:=h;obtain⟨u,E,rfl,⟨t,rfl⟩,⟨t',rfl⟩⟩:=wD r;refine min_two_ints (I.ok.hd hc) λJ tk k=>⟨_,H,I.kept k,?_,q⟩
 by_cases l:j<i
 .rw[aw l,aw l];exact⟨_,rfl⟩
 .rw[aN l,aN l];exact⟨_,rfl⟩
def UT(K:ab)(x:V)(H:Hp)(n:Nat):Prop :=
 match x with
 |.str y=>y.length<=aV/\n=y.length
 |.byt y=>y.size<=aV/\n=y.size
 |.ref p=>(∃xs,qg K H p xs/\n=xs.length)\/∃xs,qz K H p xs/\n=xs.length
 |_=>False
def wE:Yy X (.builtin "len") (λxs H Q=>∃x n,xs=[x]/\UT X.K x H n/\Q (.int n) H):=by
 intro M s zy H xs us Q I r h;obtain⟨x,n,rfl,e,q⟩:=h;obtain⟨u,rfl,B⟩:=Zx r;have T:=Sn;have hs:aV=16777216:=hh;cases x with
 |str y =>
  obtain⟨t,rfl⟩:=B;obtain⟨hy,j⟩:y.length<=aV/\n=y.length:=e;subst j;exact len_str (by omega) ⟨.int _,H,I.tok _,⟨_,rfl⟩,q⟩
 |byt y =>
  obtain⟨t,rfl⟩:=B;obtain⟨hy,j⟩:y.size<=aV/\n=y.size:=e;subst j;exact PySem.W.len_bytes (by omega) ⟨.int _,H,I.tok _,⟨_,rfl⟩,q⟩
 |ref p =>
  cases B;have j:(∃xs,qg X.K H p xs/\n=xs.length)\/∃xs,qz X.K H p xs/\n=xs.length:=e;rcases j with⟨xs,D,j⟩|⟨xs,D,j⟩
  .subst j;obtain⟨E,J,L,hz⟩:=I.list D;have l:=J.length;exact Calls.call_len_list L.isList (by simp only[aP];omega) ⟨.int xs.length,H,I.tok _,⟨_,by simp only[aP];rw[l]⟩,q⟩
  .subst j;obtain⟨E,J,L,hz⟩:=I.tuple D;have l:=J.length;exact len_tuple L (by simp only[aP];omega) ⟨.int xs.length,H,I.tok _,⟨_,by simp only[aP];rw[l]⟩,q⟩
 |_=>exact(show False from e).elim
end
structure ux (h:Heap) (x dx C:Addr) (mA:Str->Option Value):Prop where
 obj:h.get? x=Z (fW C dx)
 ns:h.Ns1 dx mA
 ne:dx≠x
set_option tactic.hygienic true in
def Qmu{h:Heap}(n:h.Ns1 B D):∃l,h.get? B=Z l/\∀name,i0 name l=Z (D name):=by
 obtain⟨o,u,I,ho,hd,E,_,hm⟩:=n;refine⟨o,ho,λname=>?_⟩;have e:=hm name;unfold nsFind findBy at e;rw[<-Array.find?_toList]at e;delta i0;rw[hd];dsimp only;split
 .rename_i y q;rw[q]at e;exact congrArg Z e
 .rename_i q;rw[q]at e;have a:u.toList.any (·.refKey)=U:=by
   rw[eQ];intro y hy;obtain⟨z,t,j⟩:=E y (Array.mem_toList_iff.mp hy);simp[DictEntry.refKey,j]
  have H:¬u.toList.any (·.refKey)=Y:=by rw[a];exact f8
  rw[aN H];exact congrArg Z e
def ux.look(I:ux h x B C D):∃l,PySem.W.InstAt h x (fW C B) C (Z l)/\∀name,i0 name l=Z (D name) :=
 let ⟨l,ho,j⟩:=Qmu I.ns
 ⟨l,⟨I.obj,rfl,rfl,ho⟩,j⟩
section
def Cb{s:aH}{K:ab}(X:K.In s.heap)(I:ux s.heap x T C B)(D:iA K C name=Y)(L:jy K C=Y)(M:eX K (.ref C) name=Z O)(zy:B name=Z v)(l:nU v=Y)(h:Q v { s with toks:=s.toks+1 }) :
  aE (model prog w) A (getAttr (.ref x) name expr) Q E s:=by
 obtain⟨t,J,j⟩:=I.look;exact PySem.W.get_value X J (ja D).1 (PySem.W.findObj_own L M rfl (by rw[j,zy])) l h
def wF{s:aH}{K:ab}(X:K.In s.heap)(I:ux s.heap x M C B)(l:iA K C name=Y)(hf:eX K (.ref C) name=Z (Z (.ref f)))(D:lp K (.ref f)=Y)(L:B name=O)(h:Q (.ref f,[.ref x]) s) :
  aE (model prog w) A (gy (.ref x) name zy) Q E s:=by
 obtain⟨j,J,t⟩:=I.look;exact PySem.W.method_fn X J (ja l).1 (ja l).2 hf (a9.mp D) (by show(i0 name j).map (·.isSome)=Z U;rw[t,L];rfl) h
def Cc{s:aH}{K:ab}(X:K.In s.heap)(I:ux s.heap x L C M)(hs:eX K (.ref C) "__setattr__"=Z (Z (.builtin "object.__setattr__")))(zx:nA K C=Y)(T:j4 K C name=Z O)(zw:jy K C=Y)(hw:lm M ns)(zy:ns.length<=aV)(h:∀B,ux B x L C (λy=>if y=name then Z v else M y)->bN L s.heap B->Q () { s with heap:=B,toks:=s.toks+2 }) :
  aE (model prog w) A (setAttr (.ref x) name v) Q E s:=by
 obtain⟨od,J,hl⟩:=I.look;refine PySem.W.set_plain X J hs (PySem.W.osa_open X J zx T λb=>?_);obtain⟨cd,hc,t⟩:=PySem.W.any_some zw;have hx :=I.obj;refine aa (af (aa (aa (wpAny_loadPart hx (aa (PySem.W.Looks.here (PySem.W.looks_clsIn X hc) ?_))))));rw[t];refine af (aa (af (aa ?_)));refine wpAny_nsSet1 I.ns λB j l=>?_;obtain⟨oD,av,az,D,u,H⟩:=j.count (lm.cons name v hw);refine aa (wpAny_lookBehind D (by rw[u];exact pastItsLine_dict (aY H (by rw[aU];lia))) ?_);exact af (h _ ⟨(l.2 _ (Ne.symm I.ne)).trans I.obj,j,I.ne⟩ l)
def wG{A:dI}{s:aH}{K:ab}(X:K.In s.heap)(hm:om K C=Y)(B:eX K (.ref C) "__init__"=Z (Z (.ref f)))(hf:PySem.W.typeIn K (.ref f)=Z (.type "function"))(h:gv (model prog w) (A.under (.builtin "type.__call__" ⟨.ref C::vs,l⟩)) (.call (.ref f) ⟨.ref (s.heap.objs.size+1)::vs,l⟩) (PySem.W.InitBack (s.heap.objs.size+1) R)
   {s with heap:=(s.heap.push eH).push (fW C s.heap.objs.size) }) :
  gv (model prog w) A (.call (.ref C) ⟨vs,l⟩) R s:=by
 obtain⟨j,g,d,t,os⟩:=s;exact PySem.W.make_core (PySem.W.makes_of X hm) (PySem.W.looks_findIn X B) (λself=>PySem.W.bind_fn X self hf) (.inl rfl) h
end
noncomputable def pZ(f:Str)(v:V):List (Str×V)->List (Str×V)
 |[]=>[(f,v)]
 | (g,x)::r=>if g=f then (g,v)::r else (g,x)::pZ f v r
def QhG f g v:∀fs ,(pZ f v fs).lookup g=if g=f then Z v else fs.lookup g:=by
 intro fs;induction fs with
 |nil =>
  show gJ g [(f,v)]=_;by_cases h:g=f
  .have j :=a9.mpr h;simp only[gJ,j,aw h]
  .have j :=bc.mpr h;simp only[gJ,j,aN h]
 |cons u r t =>
  obtain⟨k,x⟩:=u;have B:=t;rw[show pZ f v ((k,x)::r)=(if k=f then (k,v)::r else (k,x)::pZ f v r) from rfl];by_cases l:k=f
  .rw[aw l];by_cases h:g=k
   .have j :=a9.mpr h;simp only[gJ,j,aw (h.trans l)]
   .have j :=bc.mpr h;simp only[gJ,j,aN (λe:g=f=>h (e.trans l.symm))]
  .rw[aN l];by_cases h:g=k
   .have j :=a9.mpr h;simp only[gJ,j,aN (λe=>l (h.symm.trans e))]
   .have j :=bc.mpr h;simp only[gJ,j];exact B
def Z9 f v:∀fs ,f∈(pZ f v fs).map (·.1)/\∀g,g∈fs.map (·.1)->g∈(pZ f v fs).map (·.1):=by
 intro fs;induction fs with
 |nil =>
  exact⟨by simp[pZ],λg h=>by simp at h⟩
 |cons l r t =>
  obtain⟨k,x⟩:=l;obtain⟨u,B⟩:=t;rw[show pZ f v ((k,x)::r)=(if k=f then (k,v)::r else (k,x)::pZ f v r) from rfl];by_cases j:k=f
  .subst j;exact⟨by simp,λg h=>by simpa using h⟩
  .rw[aN j];refine⟨?_,λg h=>?_⟩
   .exact ay _ u
   .rcases ap.mp h with e | e
    .exact ap.mpr (.inl e)
    .exact ay _ (B g e)
def QhH f v:∀fs ,(pZ f v fs).length<=fs.length+1:=by
 intro fs;induction fs with
 |nil =>
  simp[pZ]
 |cons t r j =>
  obtain⟨k,x⟩:=t;have u:=j;rw[show pZ f v ((k,x)::r)=(if k=f then (k,v)::r else (k,x)::pZ f v r) from rfl];by_cases l:k=f
  .rw[aw l,aU,aU];lia
  .rw[aN l,aU,aU];lia
def tu.some_of(r:tu (Z v) o):∃u,o=Z u/\pq v u:=by
 cases o with
 |none=>exact(r).elim
 |some u=>exact⟨u,rfl,r⟩
def tu.none_of(r:tu O o):o=O:=by
 cases o with
 |none=>rfl
 |some u=>exact(r).elim
def QmF(r:pq v u):nU u=Y:=by
 cases v with
 |int i=>obtain⟨t,e⟩:=(r);cases e;rfl
 |str x=>obtain⟨t,e⟩:=(r);cases e;rfl
 |byt b=>obtain⟨t,e⟩:=(r);cases e;rfl
 |flt b=>obtain⟨t,e⟩:=(r);cases e;rfl
 |_=>cases (r);rfl
section
def UU(hok:sf P w H h)(e:H a=Z (.ins C B fs)):∃l,ux h a B C l/\(∀f,tu (fs.lookup f) (l f))/\lm l (fs.map (·.1))/\fs.length<=1000/\H B=Z (.own a):=by
 obtain⟨d,z,ne,j,l,n,r,q⟩:=(hok a _ e)
 exact⟨l,⟨j,n,ne⟩,r,q,z,d⟩
end
structure tZ (K:ab) (C:Addr):Prop where
 pg:iA K C Str.empty=Y
 hd:jy K C=Y
 po:nA K C=Y
 sa:eX K (.ref C) "__setattr__"=Z (Z (.builtin "object.__setattr__"))
def tZ.get{K:ab}(c:tZ K C) f:iA K C f=Y:=c.pg
def BD(K:ab)(C:Addr)(f:Str):Prop:=eX K (.ref C) f=Z O
def BD.taker{K:ab}(n:BD K C f):j4 K C f=Z O:=by
 delta j4;rw[n];rfl
structure tv (K:ab) (C:Addr) (m:Str) (f:Addr):Prop where
 at_:eX K (.ref C) m=Z (Z (.ref f))
 fn:lp K (.ref f)=Y
 kp:b7 K (.ref f)=Y
section
def QjE(I:Inv X B D H s)(e:H a=Z (.ins C L fs))(c:tZ X.K C)(n:BD X.K C f)(l:fs.lookup f=Z v)(h:∀u s',Inv X B D H s'->pq v u->Q u s'):aE (model X.prog X.w) A (getAttr (.ref a) f b) Q E s:=by
 obtain⟨J,zy,r,_,_,_⟩:=UU I.hok e;obtain⟨u,t,j⟩:=tu.some_of (by rw[<-l];exact r f);exact Cb I.kIn zy (c.get f) c.hd n t (QmF j) (h u _ (I.tok _) j)
def QdZ(I:Inv X B D H s)(e:H a=Z (.ins C L fs))(c:tZ X.K C)(k:tv X.K C m g)(l:fs.lookup m=O)(h:Q (.ref g,[.ref a]) s):aE (model X.prog X.w) A (gy (.ref a) m M) Q E s:=by
 obtain⟨t,zy,r,_,_,_⟩:=UU I.hok e;have j :=tu.none_of (by rw[<-l];exact r m);exact wF I.kIn zy (c.get m) k.at_ k.fn j h
def Qjj(I:Inv X l D H s)(e:H a=Z (.ins C B fs))(c:tZ X.K C)(n:BD X.K C f)(hl:fs.length<1000)(L:pq y u)(h:∀s',Inv X l D (pf H a (.ins C B (pZ f y fs))) s'->Q () s'):aE (model X.prog X.w) A (setAttr (.ref a) f u) Q E s:=by
 obtain⟨J,zx,r,t,_,ho⟩:=UU I.hok e;have hz:(fs.map (·.1)).length<=aV:=by rw[ag,hh];lia
 refine Cc I.kIn zx c.sa c.po n.taker c.hd t hz λM j sb=>h _ ?_;have hd:∃o,M.get? B=Z o:=let ⟨o,_,_,T,_⟩:=j.ns;⟨o,T⟩;refine I.write (by rw[e];exact iJ) (.inr ho) (λb q zw z=>(sb.2 b zw).trans z) hd ?_;refine⟨by rw[Qh zx.ne];exact ho,?_,zx.ne,j.obj,_,j.ns,λg=>?_,λg zy=>?_⟩
 .have:=QhH f y fs;lia
 .rw[QhG];by_cases q:g=f
  .rw[aw q,aw q];exact L
  .rw[aN q,aN q];exact r g
 .by_cases q:g=f
  .rw[q];exact(Z9 f y fs).1
  .refine(Z9 f y fs).2 g (t g λz=>zy ?_);show(if g=f then Z u else J g)=O;rw[aN q];exact z
def Inv.made(I:Inv X l B H s):Inv X l B (pf (pf H s.heap.objs.size (.own (s.heap.objs.size+1))) (s.heap.objs.size+1) (.ins C s.heap.objs.size []))
  {s with heap:=(s.heap.push eH).push (fW C s.heap.objs.size) }:=by
 have e1:(s.heap.push eH).get? s.heap.objs.size=Z eH:=ar s.heap rfl;have e2 :=by
  have:=ar (s.heap.push eH) (o:=fW C s.heap.objs.size) rfl
  rwa [bp]at this
 have e3:(s.heap.push eH).Ns s.heap.objs.size (λ_=>O):=⟨eH,#[],_,e1,rfl,(λe he=>absurd he (by simp)),λ_=>rfl⟩
 have j:=I.laid (o := .own (s.heap.objs.size+1)) (t':=s.toks) (λb u q=>ae _ q) (au _) ⟨_,e1⟩;refine j.laid (λb u q=>ae _ q) (Nat.le_of_eq (bp _ _)) ?_;have ne:s.heap.objs.size≠s.heap.objs.size+1:=aM (cR _);refine⟨by rw[Qh ne,Qf],b9 _,ne,e2,λ_=>O,(Heap.Ns1.of_empty e3).at λo q=>ae _ q,λ_=>iJ,λy hy=>absurd rfl hy⟩
def Cd(B:bY e f env (eval e env)=eval e env)(h:aE (model prog w) A (eval e env) (λo l=>aE (model prog w) A (getAttr o f Y) Q E l) E s):aE (model prog w) A (eval (.Attribute e f D) env) Q E s :=
 Attribute_any_ h (by rw[arm_eval_Attribute,B])
end
def UV(K:ab)(l:TE)(f:Str):TE:=λt H Q=>l t H λx j=>∃a C u fs v,x = .ref a/\j a=Z (.ins C u fs)/\tZ K C/\BD K C f/\fs.lookup f=Z v/\Q v j
def NJ(K:ab)(B I:TE)(f:Str):TS:=λD j H=>I j H λy u=>B j u λx l=>∃a C t fs,x = .ref a/\l a=Z (.ins C t fs)/\tZ K C/\BD K C f/\fs.length<1000 /\
 D.nx j (pf l a (.ins C t (pZ f y fs)))
section
def wH(he:PE X e B)(D:bY e f X.env (eval e X.env)=eval e X.env):PE X (.Attribute e f L) (UV X.K B f):=by
 intro j s t H Q I h;refine Cd D (pA (he j s t H _ I h) λu s1 E=>?_);obtain⟨x,J,M,zx,a,C,dx,fs,v,ex,T,c,n,l,q⟩:=E;subst ex;obtain rfl:u=d4 a:=zx;exact QjE M T c n l λu' s2 zw zy=>⟨v,J,zw,zy,q⟩
def Ie(zx:PE X o T)(zw:PE X B zy)(hs:c7 B (Z (.Attribute o f L)) M.line X.env=pure U):PS X (.Assign [.Attribute o f L] B M) (NJ X.K T zy f):=by
 intro j s t H D I h;refine plainObj_wpAny_Assign_Attribute (pA (zw j s t H _ I h) λu s1 ⟨y,E,J,ry,q⟩=>pA (zx j s1 t E _ J q) λov s2 zz=>?_) hs;obtain⟨x,H2,I2,rx,a,C,dx,fs,ex,ea,c,n,l,q2⟩:=zz;subst ex;obtain rfl:ov=d4 a:=rx;exact Qjj I2 ea c n l ry λs3 I3=>⟨t,_,I3,q2⟩
end
structure o8 (k:Nat) (A:dI):Prop where
 hd:A.handled=O
 dp:A.depth+3*k+5<recursionLimit
 un:A.units+16*k+200<iZ
def o8.mono(r:o8 k A)(h:j<=k):o8 j A:=⟨r.hd,by have:=r.dp;lia,by have:=r.un;lia⟩
def o8.deeper(r:o8 (k+1) A) env:o8 k (A.deeper env) :=
 ⟨r.hd,by have:=r.dp;show A.depth+1+3*k+5<_;lia,by have:=r.un;show A.units+3+16*k+200<_;lia⟩
def Qjy{A:dI}:(A.under (.builtin "type.__call__" ⟨.ref C::us,l⟩)).depth=A.depth+1:=by
 first | rfl | simp[       guardIds]
def Qjx{A:dI}:(A.under (.builtin "type.__call__" ⟨.ref C::us,l⟩)).units=A.units+1:=by
 first | rfl | simp[   Code.isFrame]
def o8.make(r:o8 (k+1) A) C us l:o8 k (A.under (.builtin "type.__call__" ⟨.ref C::us,l⟩)) :=
 ⟨r.hd,by have:=r.dp;rw[Qjy];lia,by have:=r.un;rw[Qjx];lia⟩
def o8.depth(r:o8 k A):A.depth<recursionLimit:=by have:=r.dp;lia
def o8.units(r:o8 k A):A.units+64<iZ:=by have:=r.un;lia
def Ig:TA:=λ_ H Q=>Q [] H
def NK(l:TE)(tr:TA):TA:=λj H Q=>l j H λx t=>tr j t λxs u=>Q (x::xs) u
section
def Ce:PA X [] Ig:=λ_ _ _ _ H Q I h=>Calls.spliced_nil ⟨[],H,I,.nil,h⟩
def YD(L:PE X e te)(hr:PA X B t)(hs:ah (e::B) X.env=(U,eval e X.env)::ah B X.env:=by rfl):PA X (e::B) (NK te t):=by
 intro l j s D H Q I h;rw[hs];show aE _ _ (spliced ((U,eval e X.env)::bA l (ah B X.env))) _ _ s;refine Calls.spliced_cons (pA (L j s D H _ I h) λu s1 E=>?_);obtain⟨x,J,M,zx,T⟩:=E;exact pA (hr l j s1 D J _ M T) λus s2 ⟨xs,zw,zy,r2,q2⟩=>⟨x::xs,zw,zy,.cons zx r2,q2⟩
def UW(t:TA):TE:=λl H Q=>t l H λxs j=>xs.length<=aV/\∀p,j p=O->Q (.ref p) (pf j p (.tup xs))
def UX(t:TA):TE:=λl H Q=>t l H λxs j=>xs.length<=aV/\∀p,j p=O->Q (.ref p) (pf j p (.lst xs))
def Ih(h:PA X D t):PE X (.Tuple D L l) (UW t):=by
 intro j s E H Q I hq;refine wpAny_Tuple_spliced (pA (h l j s E H _ I hq) λus s1 ⟨xs,J,B,r,z,q⟩=>⟨by rw[<-r.length];exact z,?_⟩);have hf :=B.hok.fresh (au _);refine⟨.ref s1.heap.objs.size,pf J s1.heap.objs.size (.tup xs),B.laid (λb u e=>ae _ e) (au _) ?_,rfl,q _ hf⟩;exact⟨z,us,r,⟨_,ar _ rfl,rfl,.inl rfl,_,rfl⟩⟩
def Ii(h:PA X D t):PE X (.List D l) (UX t):=by
 intro j s E H Q I hq;refine wpAny_List_spliced (pA (h l j s E H _ I hq) λus s1 ⟨xs,J,B,r,z,q⟩=>⟨by rw[<-r.length];exact z,?_⟩);have hf :=B.hok.fresh (au _);refine⟨.ref s1.heap.objs.size,pf J s1.heap.objs.size (.lst xs),B.laid (λb u e=>ae _ e) (au _) ?_,rfl,q _ hf⟩;exact⟨z,us,0,r,ar _ rfl⟩
end
abbrev Sp:=List V->Hp->VK->XK->Prop
abbrev Gw:=List Env->Hp->aH->XK->Value->aH->Prop
structure uy (P:bh) (w:cg) (K:ab) (mg:Str->Option Value) (base:Heap) (A:dI) (outer:List Env) (s:aH) (H:Hp):Prop where
 frames:A.frames=Z outer
 mod:Mod K mg base
 bs:∀b o,base.get? b=Z o->s.heap.get? b=Z o/\H b=O
 bsz:base.objs.size<=s.heap.objs.size
 funs:s.heap.FunFrames base outer
 frf:∀b∈v5 outer,H b=O
 hok:sf P w H s.heap
 bare:jX s.gens
def CE(outer:List Env)(P:bh)(w:cg)(H:Hp)(s:aH)(Q:VK)(u:Value)(s':aH):Prop :=
 ∃v j,s'.os=s.os/\jX s'.gens/\Un (v5 outer) [] H j s.heap s'.heap/\sf P w j s'.heap/\pq v u/\Q v j
def CR(CX:Gw)(outer:List Env)(P:bh)(w:cg)(H:Hp)(s:aH)(Q:VK)(E:XK)(r:kO)(s':aH):Prop :=
 match r with
 |.ok (.ret u)=>CE outer P w H s Q u s'
 |.ok _=>False
 |.error e=>CX outer H s E e s'
structure FnOk (P:bh) (w:cg) (K:ab) (mg:Str->Option Value) (base:Heap) (CX:Gw) (k:Nat) (f:Addr) (fd:eT) (ps:List Str) (sp:Sp):Prop where
 len:∀vs H Q E,sp vs H Q E->vs.length=ps.length
 run:∀(A:dI)(outer:List Env)(s:aH)(H:Hp)(args:Args)(us:List Value)(vs:List V)(Q:VK)(E:XK),o8 k A->uy P w K mg base A outer s H->BindsTo s fd args (ps.zip us)->o4 vs us->sp vs H Q E ->
  gv (model P w) A (.call (.ref f) args) (CR CX outer P w H s Q E) s
def FnOk.imp{K:ab}(F:FnOk P w K mg base CX k f fd ps sp)(h:∀vs H Q E,l vs H Q E->sp vs H Q E):FnOk P w K mg base CX k f fd ps l :=
 ⟨λvs H Q E q=>F.len vs H Q E (h _ _ _ _ q),λA outer s H args us vs Q E hr he j t hs=>F.run A outer s H args us vs Q E hr he j t (h _ _ _ _ hs)⟩
def uy.make{K:ab}(e:uy P w K mg base A outer s H) C us l :
  uy P w K mg base (A.under (.builtin "type.__call__" ⟨.ref C::us,l⟩)) outer s H:=⟨by first | exact e.frames | (simpa[   pushEnvs] using e.frames),e.mod,e.bs,e.bsz,e.funs,e.frf,e.hok,e.bare⟩
section
def Inv.env0(I:Inv X l B H s):uy X.prog X.w X.K X.mg X.base X.A X.stack s H :=
 ⟨I.ok.frames,I.ok.mod,I.bs,aY I.ok.bsz I.sz,I.stack,I.stkFree,I.hok,I.bare⟩
def Inv.after(I:Inv X l B H s)(h:CE X.stack X.prog X.w H s Q u s'):EP X l B Q u s':=by
 obtain⟨v,D,os,bare,un,hok,r,q⟩:=h;obtain⟨E,g,d,t,j⟩:=s';obtain rfl:j=s.os:=os;exact⟨v,D,I.call un hok bare (λb z=>absurd z (by simp)),r,q⟩
end
def MS(sp:Sp)(dvs:List V)(E:XK)(t:TA):TE:=λj H Q=>t j H λvs l=>sp (vs++dvs) l Q E
def Gx(C:Addr)(m:Str)(sp:Sp)(dvs:List V)(E:XK)(B:TE)(t:TA):TE:=λj H Q=>B j H λx l=>∃a u fs,x = .ref a/\l a=Z (.ins C u fs)/\fs.lookup m=O /\
 t j l λvs D=>sp (x::(vs++dvs)) D Q E
def NL(C:Addr)(sp:Sp)(dvs:List V)(E:XK)(t:TA):TE:=λu H Q=>t u H λvs l=>∀x j,l x=O->l j=O->j≠x ->
 sp (.ref x::(vs++dvs)) (pf (pf l j (.own x)) x (.ins C j [])) (λv B=>v = .non/\Q (.ref x) B) E
def ZJ(K:ab)(fd:eT)(ps:List Str)(ds:List Value):Prop :=
 ∀s us,K.In s.heap->(us++ds).length=ps.length->BindsTo s fd ⟨us,[]⟩ (ps.zip (us++ds))
def ZJ.all{K:ab}(h:∀us ,us.length=ps.length->gg fd ⟨us,[]⟩=pure (ps.zip us)):ZJ K fd ps []:=λs us _ l=>by
 rw[bB]at l |-;exact .of_eq (h us l)
def MT(CX:Gw)(X:Cx)(E:XK):Prop:=∀j (l:St) H s e s',Inv X j l H s->CX X.stack H s E e s'->X.xe e s'
section
def So(F:FnOk X.prog X.w X.K X.mg X.base CX k f fd ps sp)(hr:o8 k X.A)(D:ZJ X.K fd ps ds)(hd:o4 dvs ds)(L:MT CX X E)(I:Inv X l B H s)(r:o4 vs us)(h:sp (vs++dvs) H Q E):aE (model X.prog X.w) X.A (call (.ref f) us) (EP X l B Q) X.xe s:=by
 have j :=r.append hd;have t:(us++ds).length=ps.length:=by rw[<-j.length];exact F.len _ _ _ _ h
 refine lO (fF (F.run X.A X.stack s H ⟨us,[]⟩ (us++ds) (vs++dvs) Q E hr I.env0 (D s us I.kIn t) j h) λr s' hq=>?_);cases r with
 |error e=>exact L l B H s e s' I hq
 |ok fl =>
  cases fl with
  |ret u=>exact I.after hq
  |next=>exact d9 hq
  |brk=>exact d9 hq
  |cont=>exact d9 hq
def UY(F:FnOk X.prog X.w X.K X.mg X.base CX k f fd ps sp)(hr:o8 k X.A)(M:Gl X x)(hm:X.mg x=Z (.ref f))(zx:b7 X.K (.ref f)=Y)(T:ZJ X.K fd ps ds)(hd:o4 dvs ds)(zw:MT CX X E)(zy:PA X (e::B) t)(D:(x=="__debug__")=U:=by decide)(he:ah (e::B) X.env=(U,eval e X.env)::ah B X.env:=by rfl)(L:(bA l (ah B X.env)).any (·.1)=U:=by rfl) :
  PE X (.Call (.Name x p) (e::B) [] l) (MS sp dvs E t):=by
 intro j s J H Q I h;refine iq (UC I M hm ?_ D);refine fZ I.ok.mod.kin zx (pA (zy l j s J H _ I h) λus s1 ⟨vs,H1,u,r,q⟩=>⟨u.kIn,?_⟩) he L;exact So F hr T hd zw u r q
def QkU(he:PE X o ta)(c:tZ X.K C)(hm:tv X.K C m f)(F:FnOk X.prog X.w X.K X.mg X.base CX k f fd ps sp)(hr:o8 k X.A)(hb:ZJ X.K fd ps ds)(hd:o4 dvs ds)(hx:MT CX X E)(ha:PA X (e::L) t)(M:ah (e::L) X.env=(U,eval e X.env)::ah L X.env:=by rfl)(zx:(bA B (ah L X.env)).any (·.1)=U:=by rfl)(ht:eval (.Call (.Attribute o m D) (e::L) [] B) X.env=(do
   let T <-eval o X.env
   iO D.atName
   let (f,first) <-holding [T] (gy T m pl)
   iY B f first (bA B (ah (e::L) X.env)) (dF B (cn [] X.env))):=by rfl) :
  PE X (.Call (.Attribute o m D) (e::L) [] B) (Gx C m sp dvs E ta t):=by
 intro j s J H Q I h;refine iW (pA (he j s J H _ I h) λu s1 zz=>?_) ht;obtain⟨x,H1,zw,rx,a,dx,fs,ex,ea,l,q⟩:=zz;subst ex;obtain rfl:u=d4 a:=rx;refine QdZ zw ea c hm l ?_;refine fZ I.ok.mod.kin hm.kp (pA (ha B j s1 J H1 _ zw q) λus s2 ⟨vs,H2,zy,r,q2⟩=>⟨zy.kIn,?_⟩) M zx;exact So (vs := .ref a::vs) F hr hb hd hx zy (.cons rfl r) q2
structure Mk (K:ab) (C f:Addr):Prop where
 makes:om K C=Y
 init:eX K (.ref C) "__init__"=Z (Z (.ref f))
 fn:lp K (.ref f)=Y
 kp:b7 K (.ref C)=Y
def wI(M:Mk X.K C f)(F:FnOk X.prog X.w X.K X.mg X.base CX k f fd ps sp)(hr:o8 (k+1) X.A)(L:ZJ X.K fd ps ds)(hd:o4 dvs ds)(zx:MT CX X E)(I:Inv X l D H s)(r:o4 vs us)(h:∀x B,H x=O->H B=O->B≠x->sp (.ref x::(vs++dvs)) (pf (pf H B (.own x)) x (.ins C B [])) (λv T=>v = .non/\Q (.ref x) T) E) :
  aE (model X.prog X.w) X.A (call (.ref C) us) (EP X l D Q) X.xe s:=by
 have hq:=h (s.heap.objs.size+1) s.heap.objs.size (I.hok.fresh (c8 _)) (I.hok.fresh (au _)) (aM (cR _));have t:=Inv.made (C:=C) I;have J:o4 (V.ref (s.heap.objs.size+1)::(vs++dvs)) (d4 (s.heap.objs.size+1)::(us++ds)) := .cons rfl (r.append hd);have zw :=by
  have e:=J.length;rw[F.len _ _ _ _ hq]at e;exact e.symm
 refine lO (wG I.kIn M.makes M.init (a9.mp M.fn) (fF (F.run _ X.stack _ _ ⟨d4 (s.heap.objs.size+1)::us,[]⟩ (d4 (s.heap.objs.size+1)::(us++ds)) _ _ E (hr.make C us [])
  (t.env0.make C us []) (L _ (d4 (s.heap.objs.size+1)::us) t.kIn zw) J hq) λr s' j=>?_))
 cases r with
 |error e=>exact zx l D _ _ e s' t j
 |ok fl =>
  cases fl with
  |ret u =>
   obtain⟨v,zy,I3,rv,ev,q3⟩:=t.after j;subst ev;exact⟨rv,⟨V.ref (s.heap.objs.size+1),zy,I3,rfl,q3⟩⟩
  |next=>exact d9 j
  |brk=>exact d9 j
  |cont=>exact d9 j
def Cf(M:Mk X.K C f)(F:FnOk X.prog X.w X.K X.mg X.base CX k f fd ps sp)(hr:o8 (k+1) X.A)(zx:Gl X x)(hm:X.mg x=Z (.ref C))(T:ZJ X.K fd ps ds)(hd:o4 dvs ds)(zw:MT CX X E)(zy:PA X (e::B) t)(D:(x=="__debug__")=U:=by decide)(he:ah (e::B) X.env=(U,eval e X.env)::ah B X.env:=by rfl)(L:(bA l (ah B X.env)).any (·.1)=U:=by rfl) :
  PE X (.Call (.Name x p) (e::B) [] l) (NL C sp dvs E t):=by
 intro j s J H Q I h;refine iq (UC I zx hm ?_ D);refine fZ I.ok.mod.kin M.kp (pA (zy l j s J H _ I h) λus s1 ⟨vs,H1,u,r,q⟩=>⟨u.kIn,?_⟩) he L;exact wI M F hr T hd zw u r q
end
structure pB (N P:List Str) (sc:gk):Prop where
 kind:sc.kind = .function
 co:sc.isCoroutine=U
 gen:sc.isGenerator=U
 nd:N.Nodup
 pre:N.take P.length=P
 par:∀x∈P,sc.names.lookup x=Z .local\/sc.names.lookup x=Z .cell
 nofree:∀y∈sc.names,y.2≠.free
def Qnk{kindOf:Str->Option jB}:∀{binds:List (Str×Value)}{m:Str->Option Value},(∀v,(x,v)∉binds)->oE kindOf binds m x=m x:=by
 intro binds;induction binds with
 |nil =>
  intro _ _;exact rfl
 |cons j r l =>
  obtain⟨n,v⟩:=j;intro m h;unfold oE;rw[l λw hw=>h w (ay _ hw)];split
  .have:x≠n:=by rintro rfl;exact h v a7
   simp[this]
  .rfl
def Qnl{kindOf:Str->Option jB}:∀{binds:List (Str×Value)}{m:Str->Option Value},(∀v,(x,v)∉binds)->oF kindOf binds m x=m x:=by
 intro binds;induction binds with
 |nil =>
  intro _ _;exact rfl
 |cons j r l =>
  obtain⟨n,v⟩:=j;intro m h;unfold oF;rw[l λw hw=>h w (ay _ hw)];split
  .rfl
  .have:x≠n:=by rintro rfl;exact h v a7
   simp[this]
theorem QfW{kindOf:Str->Option jB}:∀{P:List Str}{vs:List Value}{i:Nat}{m:Str->Option Value},P.Nodup->P[i]?=Z x->vs[i]?=Z v->kindOf x=Z .local ->
  oE kindOf (P.zip vs) m x=Z v
 |[],_,_,_,_,h,_,_=>by simp at h
 |_::_,[],_,_,_,_,h,_=>by simp at h
 |p::P,w::vs,0,m,nd,h1,h2,j=>by
  simp at h1 h2;subst h1;subst h2;show oE kindOf ((p,w)::P.zip vs) m p=_;unfold oE;rw[Qnk λv l=>(bL.mp nd).1 (kb l).1,aw j];simp
 |p::P,w::vs,i+1,m,nd,h1,h2,j=>by
  unfold oE;exact QfW (bL.mp nd).2 (by simpa using h1) (by simpa using h2) j
theorem QfX{kindOf:Str->Option jB}:∀{P:List Str}{vs:List Value}{i:Nat}{m:Str->Option Value},P.Nodup->P[i]?=Z x->vs[i]?=Z v->kindOf x≠Z .local ->
  oF kindOf (P.zip vs) m x=Z v
 |[],_,_,_,_,h,_,_=>by simp at h
 |_::_,[],_,_,_,_,h,_=>by simp at h
 |p::P,w::vs,0,m,nd,h1,h2,j=>by
  simp at h1 h2;subst h1;subst h2;show oF kindOf ((p,w)::P.zip vs) m p=_;unfold oF;rw[Qnl λv l=>(bL.mp nd).1 (kb l).1,aN j];simp
 |p::P,w::vs,i+1,m,nd,h1,h2,j=>by
  unfold oF;exact QfX (bL.mp nd).2 (by simpa using h1) (by simpa using h2) j
def Xj(N:List Str)(vs:List V):St:=vs.map Z++gq (N.length-vs.length) O
def qI(CX:Gw)(P:bh)(w:cg)(K:ab)(mg:Str->Option Value)(base:Heap)(N:List Str)(qual:Str)(scope:gk)(f:Addr)(l:Value)(A:dI)(outer:List Env)(s:aH)(H:Hp)(E:XK):Cx where
 prog:=P
 w:=w
 K:=K
 mg:=mg
 base:=base
 A:=A.deeper (fR qual scope s.heap.objs.size f l)
 N:=N
 s₀:=s
 H₀:=H
 env:=fR qual scope s.heap.objs.size f l
 outer:=outer
 stack:=fR qual scope s.heap.objs.size f l::outer
 ex:=[]
 calm:=Y
 fn:=λ_=>Y
 pn:=[]
 xe:=λe s'=>aE (model P w) (A.deeper (fR qual scope s.heap.objs.size f l)) (leaving (fR qual scope s.heap.objs.size f l) e) (λ_ j=>CX outer H s E e j) (λt j=>CX outer H s E t j) s'
def QiR{l:gk}(h:l.names.lookup x=Z .cell):∃c,(dh n l.names []).lookup x=Z c:=by
 have q:=gm l.names n [] (.inl h);exact fS.mp q
def Qmz{CX:Gw}{P:bh}{w:cg}{K:ab}{mg:Str->Option Value}{base:Heap}{N ps:List Str}{qual:Str}{scope:gk}{f:Addr}{D:Value}{A:dI}{outer:List Env}{s s1:aH}{H:Hp}{E:XK}{us:List Value}{vs:List V}(S:pB N ps scope)(hd:A.handled=O)(l:uy P w K mg base A outer s H)(zx:vs.length=ps.length)(r:o4 vs us)(x:InCallC s s.heap.objs.size (oE (fR qual scope s.heap.objs.size f D).kindOf (ps.zip us) λ_=>O) (dh (s.heap.objs.size+1) scope.names []) (oF (fR qual scope s.heap.objs.size f D).kindOf (ps.zip us) λ_=>O) s1) :
  Inv (qI CX P w K mg base N qual scope f D A outer s H E) [] (Xj N vs) H s1:=by
 have M:ps.length<=N.length:=by have:=congrArg dt S.pre;rw[cS]at this;lia
 obtain⟨h1,tk,rfl,J⟩:=x.done;have j:∀b:Addr,b∉(qI CX P w K mg base N qual scope f D A outer s H E).ex:=λb z=>absurd (show b∈([]:List Addr) from z) (by simp);refine⟨⟨l.mod,S.kind,rfl,rfl,au _,λy z c h1 h2=>?_,λy hy=>?_,λy c _ h=>?_,λ_=>hd,dI.frames_deeper l.frames,.inr ⟨rfl,rfl⟩,λb z=>absurd z (j b),l.bs,l.bsz,λb _ _=>j b,λb z=>absurd z (j b),l.funs,l.frf⟩,
  rfl,l.bare,Un.kept J,⟨_,x.toInCall.ns,λi y v h1 h2 h3=>?_⟩,λy c h=>⟨_,x.cell y c h⟩,l.hok.fresh (au _),λy c h=>?_,λp t=>absurd (show p∈([]:List (Addr×Obj)) from t) (by simp),l.hok.kept J,?_⟩
 .exact name_of_addr x.apart (cU h1) (cU h2)
 .rcases hy with hy | hy
  .exact QiR hy
  .exact absurd rfl (S.nofree _ (cU hy))
 .exact cb (x.above y c (cU h))
 .have I:i<vs.length:=by
   unfold Xj at h2;by_cases I:i<vs.length
   .exact I
   .rw[dm (by simpa using I)]at h2;rw[dM]at h2;split at h2<;>cases h2
  have zy:vs[i]?=Z v:=by
   unfold Xj at h2;rw[cx (by simpa using I),aI]at h2;cases e:vs[i]? with
   |none=>rw[e]at h2;cases h2
   |some a=>rw[e]at h2;cases h2;rfl
  obtain⟨u,L,T⟩:=r.get zy;have t:ps[i]?=Z y:=by
   rw[<-S.pre,List.getElem?_take_of_lt (by lia)];exact h1
  have B:ps.Nodup:=by rw[<-S.pre];exact S.nd.sublist (jD _ _)
  refine⟨u,T,?_⟩;rcases S.par y (bV t) with k | k
  .exact .inl ⟨k,QfW B t L k⟩
  .obtain⟨c,e⟩:=QiR k;refine .inr ⟨.inl k,c,e,?_⟩;have q:=x.cell y c e;rw[QfX B t L (by show scope.names.lookup y≠_;rw[k];decide)]at q;exact q
 .exact l.hok.fresh (cb (x.above y c (cU h)))
 .delta Xj;show _=N.length;rw[a0,ag,dw];lia
def wJ{K:ab}{dV kV doc pm l ct oc:Value}(lk:K.lookup f=Z ⟨oc,od,.func (cQ name qual params body scope dV kV doc pm an l ct),av⟩)(T:fI K l qual=Y)(S:pB N ps scope)(len:∀vs H Q E,sp vs H Q E->vs.length=ps.length)(D:∀A outer s H vs Q E,o8 k (A.deeper (fR qual scope s.heap.objs.size f l))->sp vs H Q E ->
   ∃t,PSs (qI CX P w K mg base N qual scope f l A outer s H E) body t/\t { nx:=λ_ B=>Q .non B,rt:=Q } (Xj N vs) H) :
  FnOk P w K mg base CX (k+1) f (cQ name qual params body scope dV kV doc pm an l ct) ps sp:=by
 refine⟨len,λA outer s H args us vs Q E hr M hb r zx=>?_⟩;have hl:=len _ _ _ _ zx;have KX :=M.mod.kin.keeps λb o e=>(M.bs b o e).1;have zw :=M.mod.nolimit.keeps λb o e=>(M.bs b o e).1;have L:∀y∈ps.zip us,scope.names.lookup y.1=Z .local\/(scope.names.lookup y.1=Z .cell/\((dh (s.heap.objs.size+1) scope.names []).lookup y.1).isSome=Y):=λ⟨n,v⟩ hy=>by
  rcases S.par n (kb hy).1 with q | q
  .exact .inl q
  .exact .inr ⟨q,gm _ _ _ (.inl q)⟩
 refine codeAny_call_function hr.depth (KX _ _ lk) rfl S.co S.gen rfl (PySem.W.codeRec_of KX T) (hb _ _ _ _ ?_);refine wpAny_newFunctionEnv_cells S.kind L λenv he s1 x=>?_;subst he;refine⟨zw.keeps x.toInCall.keep,codeAny_func ?_⟩;obtain⟨t,ht,hq⟩:=D A outer s H vs Q E (hr.deeper _) zx;have I:Inv (qI CX P w K mg base N qual scope f l A outer s H E) [] (Xj N vs) H s1:=Qmz S hr.hd M hl r x;refine fh (ht [] s1 (Xj N vs) H _ I hq) (λfl s' hs=>?_) λe s' hs=>hs;have fin:∀{j:St}{B:Hp}{v:V}{u:Value},Inv (qI CX P w K mg base N qual scope f l A outer s H E) [] j B s'->pq v u->Q v B->CE outer P w H s Q u s' :=
  λ{j B v u} J zy q=>⟨v,B,J.os,J.bare,J.base,J.hok,zy,q⟩
 cases fl with
 |ret u =>
  obtain⟨v,j,B,J,zy,q⟩:=hs;exact fin J zy q
 |next =>
  obtain⟨j,B,J,q⟩:=hs;exact fin (v:=V.non) J rfl q
 |brk =>
  obtain⟨_,_,_,q⟩:=hs;exact d9 q
 |cont =>
  obtain⟨_,_,_,q⟩:=hs;exact d9 q
section
def Sq(r:List V->Hp->VK->Prop)(t:TA):TE:=λj H Q=>t j H λvs l=>r vs l Q
def Xe{X:Cx}{id:String}(hc:Yy X (.builtin id) r)(M:Gl X x)(hm:X.mg x=O)(zx:cW x=Z (.builtin id))(T:PA X (e::B) t)(zw:x≠"__name__":=by decide)(D:(x=="__debug__")=U:=by decide)(he:ah (e::B) X.env=(U,eval e X.env)::ah B X.env:=by rfl)(L:(bA l (ah B X.env)).any (·.1)=U:=by rfl):PE X (.Call (.Name x p) (e::B) [] l) (Sq r t):=by
 intro j s u H Q I h;refine iq (B0 I M hm zx ?_ zw D);exact PyProof.Rows.callWith_builtin1 (pA (T l j s u H _ I h) λus s1 ⟨vs,E,J,zy,q1⟩=>hc j s1 u E vs us Q J zy q1) he L
def Zr(hc:Yy X (.type T) r)(M:Gl X x)(hm:X.mg x=O)(zx:cW x=Z (.type T))(zw:PA X (e::B) t)(zy:x≠"__name__":=by decide)(D:(x=="__debug__")=U:=by decide)(he:ah (e::B) X.env=(U,eval e X.env)::ah B X.env:=by rfl)(L:(bA l (ah B X.env)).any (·.1)=U:=by rfl):PE X (.Call (.Name x p) (e::B) [] l) (Sq r t):=by
 intro j s u H Q I h;refine iq (B0 I M hm zx ?_ zy D);exact cH (pA (zw l j s u H _ I h) λus s1 ⟨vs,E,J,r1,q1⟩=>hc j s1 u E vs us Q J r1 q1) he L
end
end L2
namespace HT
open PySem PyProof.Rows
section
def cat_tup(zy:IsTup s.heap t vs.toArray)(T:IsTup s.heap b ws.toArray)(I:vs≠[])(h1:ws=[]->Q (.ref t) s)(h2:ws≠[]->Q (.ref s.heap.objs.size) { s with heap:=s.heap.push { cls := .type "tuple",data := .seq (vs++ws).toArray } })(B:vs.length+ws.length<=aV):aE (model prog w) A (cu .Add (.ref t) (.ref b)) Q E s:=by
 obtain⟨⟨cls,J,data,sl⟩,ho,hc,n,hd⟩:=id zy;obtain⟨⟨L,l,data2,u⟩,j,D,M,H⟩:=id T;subst hc hd D H;have e:vs.toArray++ws.toArray=(vs++ws).toArray:=by simp
 by_cases hw:ws=[]
 .exact nQ ⟨_,ho,rfl⟩ ⟨_,j,rfl⟩ noFill_tuple_add seq_tuple_add lr k7 (kR _ _)
   (tuple_addW1 t b vs.toArray ws.toArray n M J l sl u (by simpa using I) (by simp[hw])) ⟨ho,j,h1 hw⟩
 .refine nQ ⟨_,ho,rfl⟩ ⟨_,j,rfl⟩ noFill_tuple_add seq_tuple_add lr k7 (kR _ _)
   (tuple_addW2 t b vs.toArray ws.toArray n M J l sl u (by simpa using I) (by simpa using hw) (by exact B)) ⟨ho,j,?_⟩
  rw[e];exact h2 hw
noncomputable def sIx(n d:Nat):Option Int->Nat
 |none=>d
 |some v=>if v<0 then (v+n).toNat else min v.toNat n
def sIx_none n d:sIx n d O=d:=rfl
def sIx_nat(n d k:Nat):sIx n d (Z k)=min k n:=by
 show(if k<0 then (k+(n:Int)).toNat else min (k:Int).toNat n)=min k n;rw[aN (by lia),dn]
end
end HT
namespace L2
open PySem PySem.Spec PyProof.Rows
abbrev TO:=St->Hp->(Option Int->Hp->Prop)->Prop
def PO(X:Cx)(e:Option Expr)(t:TO):Prop :=
 ∀j s (l:St) H Q,Inv X j l H s->t l H Q ->
  aE (model X.prog X.w) X.A (evalPart e X.env) (λu s'=>∃o B,Inv X j l B s'/\IsPart u o/\Q o B) X.xe s
def Cg:TO:=λ_ H Q=>Q O H
def NM(t:TE):TO:=λj H Q=>t j H λx l=>∃i,x = .int i/\Q (Z i) l
def UZ:∀{us:List Value},o4 (ns.map V.int) us->jq us ns:=by
 induction ns with
 |nil=>intro us r;cases r;exact .nil
 |cons n ns j =>
  intro us r;cases r with
  |cons l u =>
   obtain⟨t,e⟩:=l;subst e;exact .cons n t (j u)
section
def Ci:PO X O Cg:=by
 intro j s l H Q I h;exact af ⟨O,H,I,.none,h⟩
def Cj(h:PE X e te):PO X (Z e) (NM te):=by
 intro j s l H Q I hw;refine pA (h j s l H _ I hw) λu s1 B=>?_;obtain⟨x,D,E,J,L⟩:=B;obtain⟨i,rfl,q⟩:=L;obtain⟨t,rfl⟩:=J;exact⟨Z i,D,E,.int i t,q⟩
def U0(X:Cx)(r:V->Option Int->Option Int->Hp->VK->Prop):Prop :=
 ∀j s (l:St) H x v t u lo B sl Q,Inv X j l H s->pq x v->s.heap.IsSliceOf sl t u .none->IsPart t lo->IsPart u B->r x lo B H Q ->
  ∃T id,lP (.type T) "__getitem__"=pure (Z (.builtin id))/\s.TypeIs v T/\aE (model X.prog X.w) X.A (getItem v (.ref sl)) (EP X j l Q) X.xe s
def tSl(r:V->Option Int->Option Int->Hp->VK->Prop)(te:TE)(tl B:TO):TE:=λj H Q=>te j H λx t=>tl j t λl D=>B j D λu E=>r x l u E Q
def Qir{X:Cx}{lo:Option Expr}(hr:U0 X r)(he:PE X e te)(L:PO X lo tl)(M:PO X zx zw):PE X (.Subscript e (.Slice lo zx O p2) zy) (tSl r te tl zw):=by
 intro j s t H Q I h;refine Subscript_ (pA (he j s t H _ I h) λv s1 B=>?_);obtain⟨x,H1,I1,r1,q1⟩:=B;refine wpAny_Slice (pA (L j s1 t H1 _ I1 q1) λD s2 ⟨l,H2,I2,pl,q2⟩=>pA (M j s2 t H2 _ I2 q2) λE s3 B=>?_);obtain⟨u,J,I3,pu,q3⟩:=B;refine af ?_;have I4:Inv X j t J { s3 with heap:=s3.heap.push { cls := .type "slice",data := .fields #[D,E,.none] } }:=I3.kept λb ob q=>ae _ q;obtain⟨T,id,hT,ht,hg⟩:=hr j { s3 with heap:=s3.heap.push { cls := .type "slice",data := .fields #[D,E,.none] } } t J x v D E l u s3.heap.objs.size Q I4 r1 (Heap.IsSliceOf.new ..) pl pu q3;exact tail_any ht hT hg (by with_unfolding_all rfl)
def wK(xs:List V)(lo l:Option Int):List V:=(xs.drop (HT.sIx xs.length 0 lo)).take (HT.sIx xs.length xs.length l-HT.sIx xs.length 0 lo)
def QhS xs lo l:(wK xs lo l).length<=xs.length:=by
 delta wK;rw[cS,da];exact aY (Nat.min_le_right _ _) (Nat.sub_le _ _)
def NN(K:ab):R2:=λx y H Q=>∃a b xs ys,x = .ref a/\y = .ref b/\qz K H a xs/\qz K H b ys/\xs≠[]/\xs.length+ys.length<=aV /\
 (ys=[]->Q (.ref a) H)/\(ys≠[]->∀p,H p=O->Q (.ref p) (pf H p (.tup (xs++ys))))
def o4.nil_iff(r:o4 xs us):us=[]↔xs=[]:=by
 cases r with
 |_=>simp
def Ck:qH X (cu .Add) (NN X.K):=by
 intro t s zy H x y v u Q I D E h;obtain⟨a,b,xs,ys,rfl,rfl,J,L,M,hz,zx,T⟩:=h;cases D;cases E;obtain⟨zw,l,p1,_⟩:=I.tuple J;obtain⟨B,j,p2,_⟩:=I.tuple L;refine HT.cat_tup p1 p2 (λz=>M (l.nil_iff.mp z)) (λz=>⟨.ref a,H,I,rfl,zx (j.nil_iff.mp z)⟩) (λz=>?_) (by rw[<-l.length,<-j.length];exact hz);refine⟨.ref s.heap.objs.size,_,I.laid (λb ob q=>ae _ q) (au _) ?_,rfl,T (λw=>z (j.nil_iff.mpr w)) _ (I.hok.fresh (au _))⟩;exact⟨by rw[a0];exact hz,_,l.append j,YR.new _ _ _⟩
end
noncomputable def BE(n:Nat)(i:Int):Option Nat:=if 0<=i then (if i<n then Z i.toNat else O) else if -n<=i then Z (i+n).toNat else O
def rX{α:Type}(xs:List α)(i:Int):Option α:=(BE xs.length i).bind λj=>xs[j]?
def Cm(h:BE n i=Z j):seqIndex? i n=Z j/\j<n /\ -n<=i/\i<n:=by
 delta BE at h;by_cases l:0<=i
 .rw[aw l]at h;by_cases h1:i<n
  .rw[aw h1]at h;have e :=bi h;exact⟨by rw[seqIndex_of l h1,e],by lia,by lia,h1⟩
  .rw[aN h1]at h;cases h
 .rw[aN l]at h;by_cases h1 : -n<=i
  .rw[aw h1]at h;have e :=bi h;exact⟨by rw[seqIndex_neg (by lia) h1,e],by lia,h1,by lia⟩
  .rw[aN h1]at h;cases h
def U1(h:rX xs i=Z v):∃j,seqIndex? i xs.length=Z j/\xs[j]?=Z v/\j<xs.length /\ -xs.length<=i/\i<xs.length:=by
 delta rX at h;cases e:BE xs.length i with
 |none=>rw[e]at h;cases h
 |some j =>
  rw[e]at h;obtain⟨h1,h2,h3,l⟩:=Cm e;exact⟨j,h1,h,h2,h3,l⟩
def Cn{j:Nat}(h:xs[j]?=Z v):rX xs j=Z v:=by
 have l :=(ax.mp h).1;have e:BE xs.length j=Z j:=by
  delta BE;rw[aw (by lia),aw (by lia)];simp
 delta rX;rw[e];exact h
def wL xs (v:α):rX (xs++[v]) (-1)=Z v:=by
 have l:(xs++[v]).length=xs.length+1:=by simp
 have e:BE (xs++[v]).length (-1)=Z xs.length:=by
  delta BE;rw[l,aN (by decide),aw (by lia)];congr 1;lia
 delta rX;rw[e];simp
def QlC(b:Expr):Prop:=∀o i,subscripted b U o i=operate [o,i] (getItem o i)
def MU(X:Cx)(r:R2):Prop :=
 ∀l slice j s (t:St) H x y v u Q,Inv X j t H s->pq x v->pq y u->r x y H Q ->
  subscripted slice U v u=operate [v,u] (getItem v u)->aE (model X.prog X.w) X.A (subscriptTail l slice v u) (EP X j t Q) X.xe s
def wM(X:Cx)(id:String)(r:V->List V->Hp->VK->Prop):Prop :=
 ∀j s (l:St) H x xs v us Q,Inv X j l H s->pq x v->o4 xs us->r x xs H Q ->
  aE (model X.prog X.w) X.A (call (.builtin id) (v::us)) (EP X j l Q) X.xe s
section
def NO(hr:MU X r)(l:PE X a B)(D:PE X b L)(hs:QlC b):PE X (.Subscript a b M) (MR r B L):=by
 intro j s t H Q I h;exact Subscript_ (HP l D I h λv u s2 x y E J zy T q=>hr a b j s2 t E x y v u Q J zy T q (hs _ _))
def U2(K:ab):R2:=λx y H Q=>∃p xs i v,x = .ref p/\y = .int i/\qg K H p xs/\rX xs i=Z v/\Q v H
def U3(K:ab):R2:=λx y H Q=>∃p xs i v,x = .ref p/\y = .int i/\qz K H p xs/\rX xs i=Z v/\Q v H
def U4:R2:=λx y H Q=>∃z i c,x = .str z/\y = .int i/\z.length<=aV/\rX z.cps.toList i=Z c/\Q (.str ⟨#[c]⟩) H
def Co:MU X (U2 X.K):=by
 intro B slice l s T H x y v u Q I zw zy h hs;obtain⟨p,xs,i,z,rfl,rfl,hq,he,q⟩:=h;cases zw;obtain⟨t,rfl⟩:=zy;obtain⟨D,r,E,hz⟩:=I.list hq;obtain⟨j,h1,h2,h3,h4,h5⟩:=U1 he;obtain⟨w,M,J⟩:=r.get h2;have hl:=r.length;have hn:=Sn;have fin:EP X l T Q w s:=⟨z,H,I,J,q⟩
 by_cases zx:0<=i
 .have L :=by
   rw[seqIndex_of zx h5]at h1;exact bi h1
  exact item_listR E.isList zx (by lia) (by rw[L];simpa using M) fin hs
 .have L:(i+D.toArray.size).toNat=j:=by
   rw[seqIndex_neg (by lia) h4]at h1;rw[aP,<-hl];exact bi h1
  exact subscriptTail_builtinR E.isList.typeIs slot_list_getitem.lookup
   (wpAny_getItem_list_neg E.isList (by lia) (by rw[aP]<;>lia) (by lia) (by rw[L];simpa using M) ⟨rfl,fin⟩) hs
def Ij:MU X (U3 X.K):=by
 intro B slice l s J H x y v u Q I L M h hs;obtain⟨p,xs,i,z,rfl,rfl,hq,he,q⟩:=h;cases L;obtain⟨t,rfl⟩:=M;obtain⟨zx,r,E,hz⟩:=I.tuple hq;obtain⟨j,h1,h2,h3,zy,h5⟩:=U1 he;obtain⟨w,T,D⟩:=r.get h2;have zw:=r.length;have hn:=Sn;have fin:EP X l J Q w s:=⟨z,H,I,D,q⟩
 exact subscriptTail_builtinR E.typeIs slot_tuple_getitem.lookup
  (getItem_tuple E (by lia) (by lia) (by rw[aP,<-zw];exact h1) (by simpa using T) ⟨rfl,fin⟩) hs
def Ik:MU X U4:=by
 intro l slice B s J H x y v u Q I D E h hs;obtain⟨z,i,c,rfl,rfl,hz,he,q⟩:=h;obtain⟨t,rfl⟩:=D;obtain⟨t',rfl⟩:=E;obtain⟨j,h1,h2,h3,L,M⟩:=U1 he;have zy:z.cps.toList.length=z.length:=by simp[cE]
 have T:=Sn;exact tail_any (ir s z t) slot_str_getitem.lookup (getItem_str (by
  grind) (by grind) ⟨.str ⟨#[c]⟩,H,I.tok _,⟨_,rfl⟩,q⟩) hs
def Inv.lst(I:Inv X B D H s)(h:H p=Z (.lst xs)) :
  ∃l n,o4 xs l/\s.heap.get? p=Z { cls := .type "list",data := .seq l.toArray n }/\xs.length<=aV:=by
 obtain⟨z,l,n,r,e⟩:=I.hok p _ h;exact⟨l,n,r,e,z⟩
def Qgh lo l n:(g9 lo l O n).1=((HT.sIx n 0 lo))/\(g9 lo l O n).2.1=((HT.sIx n n l))/\(g9 lo l O n).2.2=1:=by
 refine⟨?_,?_,rfl⟩
 .cases lo with
  |none=>simp[g9,HT.sIx]
  |some i =>
   simp only[g9,HT.sIx,nV,gt_iff_lt,kd,iI]
   repeat' split
   all_goals lia
 .cases l with
  |none=>simp[g9,HT.sIx]
  |some i =>
   simp only[g9,HT.sIx,nV,gt_iff_lt,kd,iI]
   repeat' split
   all_goals lia
def Qfa(l:List Value) lo B:slicePick l.toArray lo B O=((l.drop (HT.sIx l.length 0 lo)).take (HT.sIx l.length l.length B-HT.sIx l.length 0 lo)).toArray:=by
 obtain⟨h1,h2,h3⟩:=Qgh lo B l.toArray.size;delta slicePick;rw[h1,h2,h3];simp only[sliceRange_one,pick_run]<;>rfl
def U5(K:ab):V->Option Int->Option Int->Hp->VK->Prop:=λx lo j H Q=>∃a xs,x = .ref a/\qg K H a xs/\∀p,H p=O->Q (.ref p) (pf H p (.lst (wK xs lo j)))
def Cp:U0 X (U5 X.K):=by
 intro t s M H x v zy T lo j sl Q I B hs D E h;obtain⟨a,xs,rfl,J,q⟩:=h;cases B;obtain⟨L,r,u,hz⟩:=I.list J;have l:=r.length;refine⟨"list",_,slot_list_getitem.lookup,u.isList.typeIs,?_⟩;refine wpAny_getItem_list_slice u.isList hs D E .none (by simp) ?_ (by rw[aP]<;>omega);rw[Qfa,<-l];refine⟨.ref s.heap.objs.size,_,I.laid (t':=s.toks) (o := .lst (wK xs lo j)) (λb zx q=>ae _ q) (au _) ?_,rfl,q _ (I.hok.fresh (au _))⟩;exact⟨aY (QhS xs lo j) hz,_,0,(r.drop (HT.sIx xs.length 0 lo)).take (HT.sIx xs.length xs.length j-HT.sIx xs.length 0 lo),ar _ rfl⟩
def Qgs:Yy X (.type "list") (λxs H Q=>∃p ys,xs=[.ref p]/\(qg X.K H p ys\/qz X.K H p ys)/\∀l,H l=O->Q (.ref l) (pf H l (.lst ys))):=by
 intro E s zy H xs us Q I r h;obtain⟨p,ys,rfl,hq,q⟩:=h;obtain⟨u,rfl,T⟩:=Zx r;cases T;have fin:∀t,o4 ys t->ys.length<=aV->∀j B,(∀b M,s.heap.get? b=Z M->j.get? b=Z M) ->
   j.get? s.heap.objs.size=Z { cls := .type "list",dict:=O,data := .seq t.toArray B,slots := #[] }->EP X E zy Q (.ref s.heap.objs.size) { s with heap:=j }:=λt D hz j B kp e =>
  ⟨.ref s.heap.objs.size,_,I.laid kp (au _) (show ObjOk X.prog X.w _ j _ (.lst ys) from⟨hz,t,B,D,e⟩),rfl,q _ (I.hok.fresh (au _))⟩
 rcases hq with hq | hq
 .obtain⟨t,D,L,hz⟩:=I.list hq;have J:=D.length;obtain⟨o,ho,hc,n,hd⟩:=L.isList;exact call_list_seq p (.inl rfl) ho hc hd (λj B kp e=>fin t D hz j B kp e) (by simp<;>lia)
 .obtain⟨t,D,L,hz⟩:=I.tuple hq;have J:=D.length;obtain⟨o,ho,hc,n,hd⟩:=L;exact call_list_seq p (.inr rfl) ho hc hd (λj B kp e=>fin t D hz j B kp e) (by simp<;>lia)
def Qfd:Yy X (.type "tuple") (λxs H Q=>∃p ys,xs=[.ref p]/\((qg X.K H p ys/\∀l,H l=O->Q (.ref l) (pf H l (.tup ys)))\/(qz X.K H p ys/\Q (.ref p) H))):=by
 intro D s T H xs us Q I r h;obtain⟨p,ys,rfl,h⟩:=h;obtain⟨u,rfl,L⟩:=Zx r;cases L;rcases h with⟨hq,q⟩|⟨hq,q⟩
 .obtain⟨t,j,B,hz⟩:=I.list hq;have E:=j.length;refine call_tuple_list B.isList (λM kp=>?_) (by simp<;>omega);have J :=I.kept (t':=s.toks) kp;have zy  :=
   J.laid (t':=s.toks) (λb o e=>ae _ e) (au _) (show ObjOk X.prog X.w _ _ _ (.tup ys) from⟨hz,t,j,YR.new _ _ _⟩)
  exact⟨.ref M.objs.size,_,zy,rfl,q _ (J.hok.fresh (au _))⟩
 .obtain⟨t,j,B,hz⟩:=I.tuple hq;exact call_tuple_same B ⟨.ref p,H,I,rfl,q⟩
def NP(K:ab)(T:String)(x:V)(H:Hp):Prop:=match x with
 |.str _=>T = "str"
 |.int _=>T = "int"
 | .ref p=>(T = "list"/\∃xs,qg K H p xs)\/(T = "tuple"/\∃o,K.lookup p=Z o/\o.cls = .type "tuple"/\o.dict=O) \/
   (T = "dict"/\((∃j,H p=Z (.dK j))\/∃j,H p=Z (.dT j)))\/(T = "set"/\∃S n,H p=Z (.set S n))
 |_=>False
def wN(I:Inv X B L H s)(r:pq x v)(ty:NP X.K T x H) :
  s.TypeIs v T/\∀a,v = .ref a->∃D,s.heap.get? a=Z D/\D.dict=O:=by
 cases x with
 |str z =>
  obtain⟨t,rfl⟩:=r;cases (ty);exact⟨ir s z t,λ_ e=>nomatch e⟩
 |int i =>
  obtain⟨t,rfl⟩:=r;cases (ty);exact⟨typeIs_int s i t,λ_ e=>nomatch e⟩
 |ref p =>
  cases r;rcases ty with⟨rfl,xs,hq⟩|⟨rfl,o,j,hc,hd⟩|⟨rfl,j⟩|⟨rfl,S,n,j⟩
  .obtain⟨E,_,u,_⟩:=I.list hq;refine⟨u.isList.typeIs,λa e=>?_⟩;cases e;obtain⟨o,n,e,c,hd,_⟩:=u;exact⟨o,e,hd⟩
  .refine⟨⟨o,I.kIn p o j,hc⟩,λa e=>?_⟩;cases e;exact⟨o,I.kIn _ o j,hd⟩
  .have z:∃o,s.heap.get? p=Z o/\o.ExactDict:=by
    rcases j with⟨l,j⟩|⟨l,j⟩
    .obtain⟨_,_,_,_,o,_,_,e,ex,_⟩:=I.hok p _ j;exact⟨o,e,ex⟩
    .obtain⟨_,_,_,_,o,_,_,e,ex,_⟩:=I.hok p _ j;exact⟨o,e,ex⟩
   obtain⟨o,e,ex⟩:=z;refine⟨⟨o,e,ex.1⟩,λa e2=>?_⟩;cases e2;exact⟨o,e,ex.2.1⟩
  .obtain⟨o,_,_,_,e,ex,_⟩:=I.hok p _ j;refine⟨⟨o,e,ex.1⟩,λa e2=>?_⟩;cases e2;exact⟨o,e,ex.2.1⟩
 |_=>exact d9 ty
def NQ(K:ab)(T:String)(r:V->List V->Hp->VK->Prop)(to:TE):TE:=λl H Q=>to l H λx j=>NP K T x j/\r x [] j Q
def MV(K:ab)(T:String)(r:V->List V->Hp->VK->Prop)(to:TE)(t:TA):TE:=λj H Q=>to j H λx l=>NP K T x l/\t j l λxs u=>r x xs u Q
def Il{X:Cx}{l:Pos}{B:Pos}{id:String}(zx:PlainAttrs T)(slot:Slot T name id)(M:typeOf (.builtin id)=pure (.type "method_descriptor"))(hm:wM X id r)(ho:PE X o to)(D:bY o name X.env (eval o X.env)=eval o X.env:=by rfl)(L:(l.endLine==B.line)=Y:=by rfl):PE X (.Call (.Attribute o name l) [] [] B) (NQ X.K T r to):=by
 intro j s t H Q I h;refine wpAny_Call_method0_late D L (pA (ho j s t H _ I h) λv s1 J=>?_);obtain⟨x,zw,u,E,ty,zy⟩:=J;obtain⟨h1,h2⟩:=wN u E ty;exact⟨T,id,zx,slot,M,h1,h2,jg rfl (PySem.evalArgs_none (hm j s1 t zw x [] v [] Q u E .nil zy))⟩
def Cq{X:Cx}{D:Pos}{l:Pos}{id:String}(pa:PlainAttrs T)(slot:Slot T name id)(zy:typeOf (.builtin id)=pure (.type "method_descriptor"))(hm:wM X id r)(ho:PE X o to)(ha:PA X (e::L) t)(M:bY o name X.env (eval o X.env)=eval o X.env:=by rfl)(zw:((bA l (ah (e::L) X.env)).all (λx => !x.1)&&(dF l (cn [] X.env)).all (λx=>x.1.isSome)
   && decide ((e::L).length+([]:List dD).length+(if ([]:List dD).isEmpty then 0 else 1)<30))=Y:=by rfl)(zx:(D.endLine==l.line)=Y:=by rfl)(hs:ah (e::L) X.env=(U,eval e X.env)::ah L X.env:=by rfl)(B:(bA l (ah L X.env)).any (·.1)=U:=by rfl) :
  PE X (.Call (.Attribute o name D) (e::L) [] l) (MV X.K T r to t):=by
 intro j s u H Q I h;refine nL M zw zx rfl (pA (ho j s u H _ I h) λv s1 zz=>?_);obtain⟨x,H1,E,J,ty,q1⟩:=zz;obtain⟨h1,h2⟩:=wN E J ty;refine⟨T,id,pa,slot,zy,h1,h2,?_⟩;have hA:=ha l j s1 u H1 _ E q1;rw[hs]at hA |-;refine jg (by show(U||(bA l (ah L X.env)).any (·.1))=U;rw[B]<;>rfl) (oI ?_);exact pA hA λus s2 ⟨vs,H2,I2,r2,q2⟩=>hm j s2 u H2 x vs v us Q I2 J r2 q2
end
def NR(X:Cx)(id:String)(r:V->List V->Hp->VK->Prop):Prop :=
 ∀j s (l:St) H x xs v us Q,Inv X j l H s->pq x v->o4 xs us->r x xs H Q ->
  aE (model X.prog X.w) X.A (call (.builtin id) (v::us)) (EP X j l Q) X.xe s
def o4.one:∀{x:V}{us:List Value},o4 [x] us->∃u,us=[u]/\pq x u:=by
 intro x us h;cases h with
 |cons r h=>cases h;exact⟨_,rfl,r⟩
def o4.reverse(h:o4 xs us):o4 xs.reverse us.reverse:=by
 induction h with
 |nil=>exact .nil
 |cons r t j=>rw[eL,eL];exact o4.append j (.cons r .nil)
section
def Inv.lset{B its':List Value}(I:Inv X D L H s)(M:H l=Z (.lst xs))(e:s.heap.get? l=Z { cls := .type "list",data := .seq B.toArray n })(hf:f B.toArray=its'.toArray)(zy:o4 ys its')(hz:ys.length<=aV) :
  Inv X D L (pf H l (.lst ys)) { s with heap:=s.heap.update l (cT f),toks:=t' }:=by
 have q:=PySem.IsL.update e f;rw[hf]at q;refine I.write (by rw[M];exact trivial) (.inl rfl) (λE u j t=>(dy s.heap (cT f) (Ne.symm j)).trans t) ⟨_,q⟩ ?_;exact⟨hz,its',_,zy,q⟩
def Inv.lnew(I:Inv X l D H s)(L:o4 ys B)(hz:ys.length<=aV) :
  Inv X l D (pf H s.heap.objs.size (.lst ys)) { s with heap:=s.heap.push { cls := .type "list",data := .seq B.toArray },toks:=t' } :=
 I.laid (λ_ _ q=>ae _ q) (au _) ⟨hz,B,0,L,ar _ rfl⟩
def Inv.fresh(I:Inv X l B H s):H s.heap.objs.size=O:=I.hok.fresh (au _)
def Inv.lstM(I:Inv X D M H s)(L:H l=Z (.lst xs)):xs.length<=aV/\∃B n,o4 xs B/\xs.length=B.length/\s.heap.get? l=Z { cls := .type "list",data := .seq B.toArray n }:=by
 obtain⟨z,B,n,r,e⟩:=I.hok l _ L;exact⟨z,B,n,r,r.length,e⟩
def QiB(h:n<=aV):dP n=U:=by
 unfold dP;exact a5 (by omega)
end
section
def QkP:V->List V->Hp->VK->Prop:=λx vs H Q=>∃l xs y,x = .ref l/\vs=[y]/\H l=Z (.lst xs)/\xs.length<aV/\Q .non (pf H l (.lst (xs++[y])))
def QfG:NR X "list.append" QkP:=by
 intro j s L H x vs v us Q I D E h;obtain⟨l,xs,y,rfl,rfl,B,hz,q⟩:=h;cases D;obtain⟨u,rfl,J⟩:=E.one;obtain⟨z,t,n,r,M,e⟩:=I.lstM B;refine gx F.slot_list_append ⟨_,e,rfl⟩ F.entry_list_append (F.args_list_append_2 _ _) (PySem.list_append l t.toArray n u (by rw[aP];omega)) ⟨e,?_⟩;refine⟨.non,_,I.lset (its':=t++[u]) B e (by simp) (r.append (.cons J .nil)) ?_,rfl,q⟩;rw[a0,lL];omega
end
end L2
namespace Att
open PySem PySem.W PySem.Calls PyProof.Rows
def Qdv:∀ns vs,WellAll P h vs (ns.map WData.int)->jq vs ns:=by
 intro ns;induction ns with
 |nil =>
  intro vs w;cases w;exact .nil
 |cons n ns j =>
  intro vs w;cases w with
  |cons a b =>
   cases a;exact .cons _ _ (j _ b)
def QlW{l:oH}(L:l.most=Z n)(B:l.row.toRowW.claim.pre args=Y)(I:WellAll P h D args) :
  ∃a vs ns,D=[d4 a]/\args=[WData.list (ns.map WData.int)]/\h.get? a=Z { cls := .type "list",data := .seq vs.toArray }/\jq vs ns/\ns.length<=n:=by
 have E :=(pre_splitW B).1;have hc :=(pre_splitW B).2;obtain⟨d,r,rfl,h1,h2⟩:=hasAllW_cons E;obtain rfl:=hasAllW_nil h2;obtain⟨xs,rfl,h3⟩:=hasW_list h1;obtain⟨ns,rfl⟩:=items_int h3;have j:ns.length<=n:=by
  have u :=by
   have u:=(holds_andW hc).1;rw[L]at u;exact u
  have H:=condW_of u (w_not (w_lt w_lit (w_len_list (w_arg rfl))));refine nY λq=>?_;first
   | (exact absurd H (by decide))
   | (simp at H;lia)
 cases I with
 |cons J M =>
  cases M;cases J with
  |list ho t=>exact⟨_,_,ns,rfl,rfl,ho,Qdv ns _ t,j⟩
def Qmc(l:oH) args:l.row.toRowW.claim.post args (.bool Y) args=Y :=
 postW_of
  (show WShape.has [] (.bool Y) .bool=Y by first | rfl | decide | simp[  WShape.armsAll])
  (w_eq_bool (w_res rfl) w_lit) rfl
def attach_call{l:oH}(hn:l.most=Z n)(M:d.params.defaults=[])(call:∀w s₀ B mg zx I o T L doc a vs ns,
   Ground q D [] XP w s₀ mg zx B.heap->YP w B.heap ->
   B.heap.get? I=Z o->o.data = .func (docDef d.name d.params d.body d.scope T L doc)->B.heap.CodeRec L d.name->mg d.name=Z (.ref I) ->
   B.heap.get? a=Z { cls := .type "list",data := .seq vs.toArray }->jq vs ns->ns.length<=n->B.gens = #[] ->
   gv (model l.prog w) ki (.call (.ref I) ⟨[.ref a],[]⟩) (λr s'=>r = .ok (.ret (.bool Y))/\OldK B.heap s'.heap/\s'.os=B.os/\jX s'.gens) B) :
  WalkO q D XP YP l.row.toRowW d [] (λf vs=>mU f vs):=by
 intro w s₀ B mg zx G zy I o T L doc dV kV ho hd H hD J hg args av as j az aq zw aj;obtain rfl:dV = .none:=Dflts.none hD M;obtain rfl:kV = .none:=Dflts.noKw hD;obtain⟨a,vs,ns,rfl,rfl,u,t,E⟩:=QlW hn j zw;refine enter_call (fF (call w s₀ B mg zx I o T L doc a vs ns G zy ho (fd_plain hd) H J u t E hg) λr s' hq=>?_);obtain⟨rfl,h2,h3,h4⟩:=hq;exact⟨.inl ⟨.bool Y,.bool Y,[],rfl,λ_=>rfl,.bool Y,Qmc l _,λ_=>⟨List.Pairwise.nil,λ_ hm=>(nomatch hm)⟩⟩,h2,h3,h4⟩
end Att
namespace L2
open PySem PySem.Spec PyProof.Rows
def U6:∀{vs:List Value}{ns:List Int},jq vs ns->o4 (ns.map V.int) vs:=by
 intro vs ns h;induction h with
 |nil=>exact .nil
 |cons n t h j=>exact .cons ⟨t,rfl⟩ j
def NS(H:Hp):Prop:=∀b,H b=O\/∃o xs,H b=Z (.frz o (.lst xs))
def wO{P:bh}{w:cg}{K:ab}{mg mb:Str->Option Value}{CX:Gw}{k:Nat}{fa a:Addr}{fd:eT}{x:Str}{sp:Sp}{l:aH}{vs:List Value}{ns:List Int}(KX:K.In l.heap)(L:l.heap.Ns dB mg)(B:l.heap.Ns builtinsNs mb)(av:∀x:Str,x≠"__name__"->mb x=cW x)(M:l.heap.NoLimit)(hg:l.gens = #[])(zw:l.heap.get? a=Z { cls := .type "list",data := .seq vs.toArray })(hi:jq vs ns)(hl:ns.length<=aV)(hr:o8 k ki)(F:∀base ,K.In base->base.Ns dB mg->FnOk P w K mg base CX k fa fd [x] sp)(I:∀s u,BindsTo s fd ⟨[u],[]⟩ [(x,u)])(az:∀H ,NS H->qg K H a (ns.map V.int)->sp [.ref a] H (λv _=>v = .bl Y) λ_ _ _=>False)(aq:∀H e s',CX [] H l (λ_ _ _=>False) e s'->False) :
  gv (model P w) ki (.call (.ref fa) ⟨[.ref a],[]⟩) (λr s'=>r = .ok (.ret (.bool Y))/\OldK l.heap s'.heap/\s'.os=l.os/\jX s'.gens) l:=by
 have rv:=U6 hi;have E:=hi.length
 -- from an abstract heap in which nothing but the script may be tracked
 have D:∀H ,NS H->qg K H a (ns.map V.int)->sf P w H l.heap->(∀b,H b≠O->b=a)->(H a≠O->K.lookup a=O) ->
   gv (model P w) ki (.call (.ref fa) ⟨[.ref a],[]⟩) (λr s'=>r = .ok (.ret (.bool Y))/\OldK l.heap s'.heap/\s'.os=l.os/\jX s'.gens) l:=by
  intro H hO hS hok hA hK;have j:∀{b:Addr}{o:Obj},l.heap.get? b=Z o->H b=O->(tY l.heap H).get? b=Z o:=λe n=>wj e n;have aj:∀{b:Addr}{o:Obj}{zy:Array DictEntry}{ep:Nat},l.heap.get? b=Z o->o.data = .dict zy ep->H b=O:=λ{b o zy ep} e d=>by
   cases q:H b with
   |none=>rfl
   |some u =>
    have e' :=hA b (by rw[q];simp);subst e';rw[zw]at e;cases e;have d' :=d;cases d'
  have t:∀{b:Addr}{m:Str->Option Value},l.heap.Ns b m->(tY l.heap H).Ns b m:=λ{b m} zz=>by obtain⟨o,zy,ep,e,d,r⟩:=zz;exact⟨o,zy,ep,j e (aj e d),d,r⟩
  have J :=λb o e=>j (KX b o e) (by
   cases q:H b with
   |none=>rfl
   |some u =>
    have e' :=hA b (by rw[q];simp);subst e';rw[hK (by rw[q];simp)]at e;cases e)
  have hM:Mod K mg (tY l.heap H):=⟨J,t L,⟨mb,t B,av⟩,let ⟨mc,h1,h2⟩:=M;⟨mc,t h1,h2⟩⟩
  have e0:uy P w K mg (tY l.heap H) ki [] l H:=⟨rfl,hM,λb o e=>BY e,Nat.le_of_eq (QmE _ _),trivial,λb B=>absurd (show b∈[] from B) (by simp),hok,.of_eq hg⟩
  refine fF ((F _ J (t L)).run ki [] l H ⟨[.ref a],[]⟩ [.ref a] [.ref a] _ _ hr e0 (I l (.ref a)) (.cons rfl .nil) (az H hO hS)) λr s' h=>?_;cases r with
  |error e=>exact(aq H e s' h).elim
  |ok fl =>
   cases fl with
   |next=>exact d9 h
   |brk=>exact d9 h
   |cont=>exact d9 h
   |ret u =>
    obtain⟨v,H',os,bare,un,zx,r',q⟩:=h;have q' :=q;subst q';obtain rfl:u=fG Y:=r';refine⟨rfl,OldK.of_keep λb o e=>?_,os,bare⟩;cases q:H b with
    |none=>exact un.keep b o e q (by intro z;exact absurd (show b∈[] from z) (by simp)) (by simp)
    |some u =>
     rcases hO b with z|⟨ob,xs,z⟩
     .rw[q]at z;cases z
     .have z2:=un.frzs b ob _ z;obtain⟨e1,_⟩:=hok b _ z;obtain⟨e2,_⟩:=zx b _ z2;rw[e]at e1;cases e1;exact e2
 cases hk:K.lookup a with
 |some o =>
  -- the script is one of the module's own objects
  have e:=KX a o hk;rw[zw]at e;cases e;refine D (λ_=>O) (λ_=>.inl rfl) (.inr ⟨_,vs.toArray,_,hk,rfl,rfl,rfl,by rw[aP,E];exact hl,by simpa using rv⟩) (λb u z=>by have T :=z;cases T) (λb z=>absurd rfl z) λz=>absurd rfl z
 |none =>
  refine D (λb=>if b=a then Z (.frz { cls := .type "list",data := .seq vs.toArray } (.lst (ns.map V.int))) else O) (λb=>?_) (.inl (.inr ⟨{ cls := .type "list",data := .seq vs.toArray },aw rfl⟩)) (λb u z=>?_) (λb z=>?_) λ_=>hk
  .by_cases B:b=a
   .exact .inr ⟨_,_,aw B⟩
   .exact .inl (aN B)
  .by_cases B:b=a
   .have T:=(aw B).symm.trans z;cases T;subst B;exact⟨zw,by rw[ag];exact hl,vs,_,rv,zw⟩
   .have T:=(aN B).symm.trans z;cases T
  .by_cases B:b=a
   .exact B
   .exact absurd (aN B) z
abbrev KOf{K:ab}{h:Heap}(_:K.In h):ab:=K
end L2
namespace L2
open PySem PySem.Spec PyProof.Rows
def Zs(s:Stmt)(j:Nat):Stmt:=match s with
 |.ClassDef _ _ _ body _ _ _ _ _ _ _=>body.getD j (.Pass ⟨0,0,0,0⟩)
 |_=>.Pass ⟨0,0,0,0⟩
def Qz(s:Stmt):Arguments:=match s with
 |.FunctionDef _ a _ _ _ _ _ _ _ _=>a
 |_=>{ posonlyargs:=[],args:=[],vararg:=O,kwonlyargs:=[],kw_defaults:=[],kwarg:=O,defaults:=[] }
noncomputable def Qn(s:Stmt):List Stmt:=match s with
 |.FunctionDef _ _ b _ _ _ _ _ _ _=>b
 |_=>[]
def Qe(s:Stmt):gk:=match s with
 |.FunctionDef _ _ _ _ _ _ j _ _ _=>j
 |_=>{ kind := .function,names:=[],isGenerator:=U,isCoroutine:=U }
abbrev qh:Gw:=λ_ _ _ _ _ _=>False
abbrev E0:XK:=λ_ _ _=>False
def Gy:MT qh X E0:=λ_ _ _ _ _ _ _ h=>h.elim
structure sO (K:ab) (x qual:Str) (st:Stmt) (f:Addr) (fd:eT):Prop where
 ex:∃(oc:Value)(od:Option Addr)(kV doc pm:Value)(an:Option Addr)(cdv ct:Value)(osl:Array (Option Value)),
  fd=cQ x qual (Qz st) (Qn st) (Qe st) .none kV doc pm an cdv ct/\K.lookup f=Z ⟨oc,od,.func fd,osl⟩/\fI K cdv qual=Y
 kp:b7 K (.ref f)=Y
section
def sO.ok{P:bh}{K:ab}{st:Stmt}(F:sO K x qual st f fd)(S:pB N ps (Qe st))(len:∀vs H Q E,sp vs H Q E->vs.length=ps.length)(B:∀l A outer s H vs Q E,o8 k (A.deeper (fR qual (Qe st) s.heap.objs.size f l))->sp vs H Q E ->
   ∃t,PSs (qI qh P w K mg base N qual (Qe st) f l A outer s H E).nox (Qn st) t/\t { nx:=λ_ D=>Q .non D,rt:=Q } (Xj N vs) H):FnOk P w K mg base qh (k+1) f fd ps sp:=by
 obtain⟨J,L,kV,doc,M,an,l,ct,I,rfl,lk,j⟩:=F.ex;refine wJ lk j S len λA outer s H vs Q E hr u=>?_;obtain⟨t,h,q⟩:=B l A outer s H vs Q E hr u;exact⟨t,h.nox,q⟩
def sO.binds{K:ab}{st:Stmt}(F:sO K x qual st f fd)(h:∀kV doc B an l ct us,us.length=ps.length->gg (cQ x qual (Qz st) (Qn st) (Qe st) .none kV doc B an l ct) ⟨us,[]⟩=pure (ps.zip us)):ZJ K fd ps []:=by
 obtain⟨u,D,kV,doc,B,an,l,ct,j,rfl,lk,t⟩:=F.ex;exact .all (h kV doc B an l ct)
def Im{K:ab}{st:Stmt}{kV doc D B ct:Value}(l:K.lookup f=Z ⟨L,M,.func (cQ x qual (Qz st) (Qn st) (Qe st) .none kV doc D an B ct),I⟩)(c:fI K B qual=Y)(k:b7 K (.ref f)=Y):sO K x qual st f (cQ x qual (Qz st) (Qn st) (Qe st) .none kV doc D an B ct):=⟨⟨L,M,kV,doc,D,an,B,ct,I,rfl,l,c⟩,k⟩
end
section
def pv i (B:X.N[i]?=Z x:=by rfl) (D:Si X.env.scope x:=by first | exact Or.inl rfl | exact Or.inr (Or.inl rfl) | exact Or.inr (Or.inr rfl)) (hd:(x=="__debug__")=U:=by decide)
  (l:(x=="__classdict__")=U:=by decide):PE X (.Name x I) (qN i):=Hy B D hd l
end
def Same(H l:Hp):Prop:=∀b o,H b=Z o->l b=Z o
def Same.refl H:Same H H:=λ_ _ h=>h
def Same.trans{H l B:Hp}(a:Same H l)(b:Same l B):Same H B:=λc o h=>b c o (a c o h)
def Same.free(e:Same H B)(h:B l=Option.none):H l=Option.none:=by
 cases q:H l with
 |none=>rfl
 |some o =>
  rw[e l o q]at h;cases h
def Same.seq{K:ab}(e:Same H l)(h:qg K H a xs):qg K l a xs:=by
 rcases h with(h|⟨o,h⟩) | h
 .exact .inl (.inl (e _ _ h))
 .exact .inl (.inr ⟨o,e _ _ h⟩)
 .exact .inr h
end L2
namespace L2.PM
open PySem PySem.Spec PyProof.Rows
noncomputable def pS(env:Env):List (Str×jB)->List (Str×Addr)->List (Str×Addr)
 |[],j=>j
 | (n,k)::r,j=>if k==jB.free then pS env r ((n,(env.cells.lookup n).getD 0)::j) else pS env r j
def wP:∀l B,(∀x∈l,x.2=jB.free->∃c,env.cells.lookup x.1=Z c) ->
  (forIn l B λx cs=>if (x.2==jB.free)=Y then (do let a <-cellOf env x.1;pure (cO ((x.1,a)::cs))) else pure (cO cs))=(pure (pS env l B):Sem _):=by
 intro l;induction l with
 |nil =>
  intro B _;exact rfl
 |cons D r t =>
  obtain⟨n,k⟩:=D;intro B h;have hr :=λx E=>h x (ay _ E);by_cases u:k=jB.free
  .subst u;obtain⟨c,hc⟩:=h (n,jB.free) a7 rfl;have j:cellOf env n=pure c:=by delta cellOf;rw[hc]
   simp only[gM,  pS,j,hc];exact t ((n,c)::B) hr
  .have H:(k==jB.free)=U:=by simpa using u
   simp only[gM,H,  pS];exact t B hr
def QbF(h:∀x∈scope.names,x.2=jB.free->∃c,env.cells.lookup x.1=Z c):closureFor scope env=pure (pS env scope.names []):=by
 have e:=wP scope.names [] h;have f:(λx cs=>(match x with
   | (name,kind)=>if (kind==jB.free)=Y then (do let a <-cellOf env name;pure (cO ((name,a)::cs))) else pure (cO cs))) =
   (λx cs=>if (x.2==jB.free)=Y then (do let a <-cellOf env x.1;pure (cO ((x.1,a)::cs))) else pure (cO cs)):=by
  funext x cs;cases x;rfl
 delta closureFor;dsimp only;rw[f,e];rfl
def QiQ:∀l B,(x,jB.free)∈l\/B.lookup x=env.cells.lookup x->(∀y∈l,y.2=jB.free->∃c,env.cells.lookup y.1=Z c) ->
  (pS env l B).lookup x=env.cells.lookup x:=by
 intro l;induction l with
 |nil =>
  intro B h _;rcases h with h | h
  .cases h
  .exact h
 |cons H r E =>
  obtain⟨n,k⟩:=H;intro B h hc;have hr :=λy hy=>hc y (ay _ hy);by_cases j:k=jB.free
  .subst j;obtain⟨c,t⟩:=hc (n,jB.free) a7 rfl;refine E _ ?_ hr;by_cases u:x=n
   .subst u;right;simp[t]
   .have D:(x==n)=U:=by simpa using u
    rcases h with h | h
    .rcases ap.mp h with h | h
     .injection h with h1 _
      exact absurd h1 u
     .exact .inl h
    .right;simp only[bC,D];exact h
  .have D:(k==jB.free)=U:=by simpa using j
   simp only[pS,D];refine E B ?_ hr;rcases h with h | h
   .rcases ap.mp h with h | h
    .injection h with _ h2
     exact absurd h2.symm j
    .exact .inl h
   .exact .inr h
def Cr:∀l B,(B.lookup x=Z c->env.cells.lookup x=Z c)->(∀y∈l,y.2=jB.free->∃c,env.cells.lookup y.1=Z c) ->
  (pS env l B).lookup x=Z c->env.cells.lookup x=Z c:=by
 intro l;induction l with
 |nil =>
  intro B h _ e;exact h e
 |cons H r u =>
  obtain⟨n,k⟩:=H;intro B h hc e;have hr:∀y∈r,y.2=jB.free->∃c,env.cells.lookup y.1=Z c:=λy hy=>hc y (ay _ hy);by_cases D:k=jB.free
  .subst D;obtain⟨d,j⟩:=hc (n,jB.free) a7 rfl;have j:env.cells.lookup n=Z d:=j;simp only[pS,bW,iI]at e;refine u _ (λq=>?_) hr e;by_cases E:x=n
   .subst E;simp[j]at q;rw[j,q]
   .have t:(x==n)=U:=by simpa using E
    simp only[bC,t]at q;exact h q
  .have t:(k==jB.free)=U:=by simpa using D
   simp only[pS,t,et,gG]at e;exact u B h hr e
noncomputable def wQ(env:Env)(l:gk)(B:List (Str×Addr))(C:Addr):Env :=
 {scope:=l,locals:=C,globals:=env.globals,cells:=B,qual:=env.qual,func:=O,code:=env.code,frame:=env.frame,builtins:=env.builtins }
def YY(X:Cx)(l:List (Addr×Obj))(D:List Str)(B:gk)(I:List (Str×Addr))(C:Addr)(s:aH)(H:Hp)(L:List Addr):Cx where
 prog:=X.prog
 w:=X.w
 K:=X.K
 mg:=X.mg
 base:=X.base
 A:=X.A
 N:=D
 s₀:=s
 H₀:=H
 env:=wQ X.env B I C
 outer:=X.stack
 stack:=X.stack
 ex:=L
 fn:=λ_=>U
 calm:=X.calm
 pn:=X.pn++l
 xe:=λ_ _=>False
def Qx(osc scope:gk):gk :=
 {scope with names:=scope.names.map λ(n,k)=>if (k==.free&&osc.kind==.function&&osc.names.lookup n==Z .cell) then (n,.cell) else (n,k) }
structure qa (N:List Str) (osc scope:gk) (N':List Str) (nt:Nat) (caps:List Nat):Prop where
 kind:scope.kind = .function
 nocell:∀x∈scope.names,x.2≠cI
 locs:∀x∈scope.names,x.2=jB.local->scope.names.lookup x.1=Z .local
 free:∀x∈scope.names,x.2=jB.free->osc.names.lookup x.1=Z .cell\/osc.names.lookup x.1=Z .free
 len:N'.length=nt+caps.length
 cap:∀p∈caps.zip (N'.drop nt),N[p.1]?=Z p.2/\scope.names.lookup p.2=Z jB.free
def XT(nt:Nat)(l:List Nat)(B:St):St:=gq nt O++l.map λj=>(B[j]?).getD O
section
def QmM(I:Inv X l L H s)(D:qa X.N X.env.scope scope M nt B):∀x∈scope.names,x.2=jB.free->∃c,X.env.cells.lookup x.1=Z c:=λx j hf =>
 I.ok.has x.1 (D.free x j hf)
def Qjk{osc:gk}:∀{names:List (Str×jB)},names.lookup x=Z jB.free ->
  (names.map λp=>if (p.2==jB.free&&osc.kind==.function&&osc.names.lookup p.1==Z .cell) then (p.1,cI) else (p.1,p.2)).lookup x=Z k->k = .cell\/k = .free:=by
 intro names;induction names with
 |nil =>
  intro h _;cases h
 |cons u r l =>
  obtain⟨n,q⟩:=u;intro h e;by_cases t:x=n
  .subst t;simp at h;subst h;simp at e;split at e<;>simp at e<;>simp[e.symm]
  .have j:(x==n)=U:=by simpa using t
   simp only[bC,j]at h;simp only[aT]at e;split at e
   .simp only[bC,j]at e;exact l h e
   .simp only[bC,j]at e;exact l h e
end
def uz(X:Cx)(l:List Expr)(t:TT):Prop :=
 ∀j s (u:St) H Q,Inv X j u H s->t u H Q ->
  aE (model X.prog X.w) X.A (forIn l Y λc r=>if r=Y then do let ok <-isTrue c X.env (eval c X.env);pure (cO ok) else pure (cO r)) (TP X j u Q) X.xe s
def U7:TT:=λ_ H Q=>Q Y H
def wR:uz X [] U7:=λ_ _ _ H _ I h=>wpAny_tests_nil ⟨H,I,h⟩
def wS(h:PT X c t):uz X [c] t:=λj s l H Q I hq=>wpAny_tests_one (h j s l H Q I hq)
def QhT{prog:bh}{w:cg}{A:dI}{R:kO->aH->Prop}{s:aH}{T target iter:Expr}{zw:List Expr}{scope:gk}{av:Pos}{it zy:Value}{env:Env}(I:Nat->aH->Prop)(turn:∀n s,I n s->aE (model prog w) A (iu it) (λr l=>match r with
   |none=>R (.ok .next) l
   |some v=>aE (model prog w) A (lf target it v) (λ_ B=>aE (model prog w) A (assign target env v) (λ_ L =>
     aE (model prog w) A (forIn zw Y λc r=>if r=Y then do let ok <-isTrue c env (eval c env);pure (cO ok) else pure (cO r)) (λok D =>
      if ok=Y then aE (model prog w) A (eval T env) (λx M =>
       aE (model prog w) A (call (.builtin "list.append") [zy,x]) (λ_ zx=>∃m,m<n/\I m zx) (λ_ _=>False) M) (λ_ _=>False) D
      else ∃m,m<n/\I m D) (λ_ _=>False) L) (λ_ _=>False) B) (λ_ _=>False) l) (λ_ _=>False) s)(n:Nat)(h:I n s) :
  gv (model prog w) A (.compLoop (.ListComp T [⟨target,iter,zw,0⟩] scope av) 0 it zy env) R s:=by
 refine codeAny_loop rfl I (λn s hI=>?_) n h;show aE _ A ((compTurn (.ListComp T [⟨target,iter,zw,0⟩] scope av) 0 it zy env).onRaise (λx=>do noteFrame x env;theTreesLotGoes x)) _ _ s;refine wpAny_noted ?_;rw[compTurn_list];refine aa (wpAny_standAt (aa (fh (turn n s hI) (λr l t=>?_) λ_ _ j=>j.elim)));cases r with
 |none=>exact af t
 |some v =>
  refine aa (fh t (λ_ B E=>?_) λ_ _ j=>j.elim);refine aa (fh E (λ_ L H=>aa (fh H (λok D u=>?_) λ_ _ j=>j.elim)) λ_ _ j=>j.elim);cases ok with
  |false=>exact af ⟨rfl,u⟩
  |true =>
   exact aa (aa (fh u (λx M J=>aa (fh J (λ_ zx az=>af (af ⟨rfl,az⟩)) λ_ _ j=>j.elim)) λ_ _ j=>j.elim))
def Gz(B l:St):Prop:=l.length=B.length/\∀(i:Nat) v,B[i]?=Z (Z v)->l[i]?=Z (Z v)
def NT(J:It)(nt:Nat)(l:List Nat)(g:TG)(tc:TT)(te:TE)(B:St)(I:Hp)(M:Addr->Hp->Prop):Prop :=
 ∀D,I D=O->∃W:Nat->Nat->List V->Hp->Prop,(∃m,W 0 m [] (pf I D (.lst []))) /\
  ∀i m xs H,W i m xs H->(J.stop i H/\M D H)\/(J.go i H/\∀x u,J.yld i H x u->g x (XT nt l B) u λj zy=>Gz (XT nt l B) j /\
   tc j zy λb E=>if b=Y then te j E λv L=>L D=Z (.lst xs)/\xs.length<aV/\∃t,t<m/\W (i+1) t (xs++[v]) (pf L D (.lst (xs++[v]))) else ∃t,t<m/\W (i+1) t xs E)
def Io:∀names n l,(x,cI)∉names->(dh n names l).lookup x=l.lookup x:=by
 intro names;induction names with
 |nil =>
  intro _ _ _;exact rfl
 |cons u r t =>
  obtain⟨y,k⟩:=u;intro n l h;have hr:(x,cI)∉r:=λz=>h (ay _ z);unfold dh;split
  .rename_i j;have j:k=cI:=a9.mp j;subst j;rw[t _ _ hr,bC];have:(x==y)=U:=by
    rw[bc];rintro rfl;exact h a7
   rw[this]
  .exact t _ _ hr
def Ip:∀names (h:Heap) l,(dh h.objs.size names l).lookup x=Z c->l.lookup x=Z c\/(h.objs.size<=c/\(fY h names).IsCell c O):=by
 intro names;induction names with
 |nil =>
  intro _ _ e;exact .inl e
 |cons u r t =>
  obtain⟨y,k⟩:=u;intro h l e;unfold dh at e;unfold fY;split at e
  .rename_i j;rw[aw j];have e:(dh (h.push { cls := .type "cell",data := .cell O }).objs.size r ((y,h.objs.size)::l)).lookup x=Z c:=by rw[bp];exact e
   rcases t _ _ e with z|⟨B,D⟩
   .rw[bC]at z;cases q:x==y with
    |true =>
     rw[q]at z;cases z;exact .inr ⟨au _,_,jk r _ _ _ (ar _ rfl),rfl⟩
    |false=>rw[q]at z;exact .inl z
   .rw[bp]at B;exact .inr ⟨by lia,D⟩
  .rename_i j;rw[aN j];exact t h l e
def Iq:∀names (n:Nat) (l:List (Str×Addr)),(∀x c,l.lookup x=Z c->c<n)->(∀x y c,l.lookup x=Z c->l.lookup y=Z c->x=y)->∀x y c,(dh n names l).lookup x=Z c->(dh n names l).lookup y=Z c->x=y:=by
 intro names;induction names with
 |nil =>
  intro _ _ _ h2 x y c e1 e2;exact h2 x y c e1 e2
 |cons D r B =>
  obtain⟨z,k⟩:=D;intro n l h1 h2 x y c e1 e2;unfold dh at e1 e2;split at e1
  .rename_i u;rw[aw u]at e2;refine B (n+1) ((z,n)::l) (λx c e=>?_) (λx y c e1 e2=>?_) x y c e1 e2
   .rw[bC]at e;cases q:x==z with
    |true=>rw[q]at e;cases e;exact cR _
    |false=>rw[q]at e;exact bQ (h1 x c e)
   .rw[bC]at e1 e2;cases t:x==z with
    |true =>
     cases j:y==z with
     |true=>rw[a9.mp t,a9.mp j]
     |false =>
      rw[t]at e1;rw[j]at e2;cases e1;exact absurd (h1 y _ e2) (cp _)
    |false =>
     cases j:y==z with
     |true =>
      rw[t]at e1;rw[j]at e2;cases e2;exact absurd (h1 x _ e1) (cp _)
     |false =>
      rw[t]at e1;rw[j]at e2;exact h2 x y c e1 e2
  .rename_i u;rw[aN u]at e2;exact B n l h1 h2 x y c e1 e2
def Cs{code:Value}(l:Q (newEnv scope s.heap.objs.size globals (dh (s.heap.objs.size+1) scope.names closure) qual func code (Z outer) builtins) { s with heap:=fY (s.heap.push { cls := .type "dict",data := .dict #[] }) scope.names }) :
  aE M A (lU scope globals closure [] qual func code (Z outer) builtins) Q E s:=by
 refine aa (wpAny_alloc ?_);refine aa (wpAny_layCells _ (by grind) _ _ _ _ ?_);rw[bp ..];exact aa (af (af l))
def qX(scope:gk):Str->Bool:=λx=>scope.names.lookup x==Z cI
def YA(X:Cx)(fn:Str->Bool)(l:List (Addr×Obj))(D:List Str)(B:gk)(I:List (Str×Addr))(C:Addr)(s:aH)(H:Hp)(L:List Addr):Cx:={ YY X l D B I C s H L with fn:=fn }
structure qi (N:List Str) (osc scope:gk) (N':List Str) (nt:Nat) (caps:List Nat):Prop where
 kind:scope.kind = .function
 nd:∀x,(x,cI)∈scope.names->(x,jB.free)∉scope.names
 locs:∀x∈scope.names,x.2=jB.local->scope.names.lookup x.1=Z .local
 free:∀x∈scope.names,x.2=jB.free->osc.names.lookup x.1=Z .cell\/osc.names.lookup x.1=Z .free
 len:N'.length=nt+caps.length
 cap:∀p∈caps.zip (N'.drop nt),N[p.1]?=Z p.2/\scope.names.lookup p.2=Z jB.free
def Sr(N:List Str)(osc scope:gk)(B:List Str)(nt:Nat)(l:List Nat):Bool :=
 (scope.kind==.function)&&scope.names.all (λx=>scope.names.lookup x.1==Z x.2)&&scope.names.all (λx=>x.2 != jB.local||scope.names.lookup x.1==Z .local) &&
 scope.names.all (λx=>x.2 != jB.free||(osc.names.lookup x.1==Z .cell||osc.names.lookup x.1==Z .free))&&(B.length==nt+l.length) &&
 (l.zip (B.drop nt)).all (λp=>N[p.1]?==Z p.2&&scope.names.lookup p.2==Z jB.free)
def QjM{N:List Str}{osc scope:gk}{B:List Str}{nt:Nat}{l:List Nat}(h:Sr N osc scope B nt l=Y):qi N osc scope B nt l:=by
 delta Sr at h;simp only[aQ,aX,dQ,bne_iff_ne,a9,ne_eq]at h;obtain⟨⟨⟨⟨⟨h1,h2⟩,h3⟩,t⟩,u⟩,D⟩:=h;refine⟨h1,λx c f=>(by have z:=(h2 (x,cI) c).symm.trans (h2 (x,jB.free) f);cases z),λx j e=>?_,λx j e=>?_,u,D⟩
 .rcases h3 x j with z | z
  .exact absurd e z
  .exact z
 .rcases t x j with z | z
  .exact absurd e z
  .exact z
def Ir{X:Cx}{N:List Str}{osc scope:gk}{B:List Str}{nt:Nat}{l:List Nat}(h1:X.N=N)(h2:X.env.scope=osc)(h:Sr N osc scope B nt l=Y):qi X.N X.env.scope scope B nt l:=by
 rw[h1,h2];exact QjM h
section
def Qea(I:Inv X l L H s)(D:qi X.N X.env.scope scope M nt B):∀x∈scope.names,x.2=jB.free->∃c,X.env.cells.lookup x.1=Z c:=λx j hf =>
 I.ok.has x.1 (D.free x j hf)
def wT:∀l B,(pS env l B).lookup x=Z c->(x,jB.free)∈l\/B.lookup x=Z c:=by
 intro l;induction l with
 |nil =>
  intro _ e;exact .inr e
 |cons u r j =>
  obtain⟨n,k⟩:=u;intro B e;by_cases t:k=jB.free
  .subst t;rcases j _ e with z | z
   .exact .inl (ay _ z)
   .rw[bC]at z;cases q:x==n with
    |true=>exact .inl (by rw[a9.mp q];exact a7)
    |false=>rw[q]at z;exact .inr z
  .have D:(k==jB.free)=U:=by simpa using t
   simp only[pS,D]at e;rcases j B e with z | z
   .exact .inl (ay _ z)
   .exact .inr z
theorem U8{osc:gk}:∀(names:List (Str×jB)) k,(k=cI\/k=jB.free) ->
  (names.map λp=>if (p.2==jB.free&&osc.kind==.function&&osc.names.lookup p.1==Z .cell) then (p.1,cI) else (p.1,p.2)).lookup x=Z k->names.lookup x=Z cI\/names.lookup x=Z jB.free
 |[],_,_,e=>by cases e
 | (n,q)::r,k,l,e=>by
  by_cases t:x=n
  .subst t;simp only[aT]at e;split at e
   .rename_i j;simp at j;exact .inr (by simp[j.1.1])
   .simp at e;subst e;rcases l with l | l
    .exact .inl (by simp[l])
    .exact .inr (by simp[l])
  .have u:(x==n)=U:=by simpa using t
   simp only[bC,u];refine U8 (osc:=osc) r k l ?_;simp only[aT]at e;split at e<;>(simp only[bC,u]at e;exact e)
def wU(I:Inv X L σ H s)(hc:X.calm=Y)(zw:qi X.N X.env.scope scope N' nt B)(hf:∀b∈fp,qp X L H b)(av:∀b∈fp,b<s.heap.objs.size){tk:Nat} :
  Inv (YA X (qX scope) L N' (Qx X.env.scope scope) (dh (s.heap.objs.size+1) scope.names (pS X.env scope.names [])) s.heap.objs.size s H fp) [] (XT nt B σ) H { s with heap:=fY (s.heap.push { cls := .type "dict",data := .dict #[] }) scope.names,toks:=tk }:=by
 have fc:=Qea I zw;have D:∀x c,(pS X.env scope.names []).lookup x=Z c->X.env.cells.lookup x=Z c:=λx c e=>Cr scope.names [] (λq=>by cases q) fc e;have E:∀b u,s.heap.get? b=Z u->(fY (s.heap.push { cls := .type "dict",data := .dict #[] }) scope.names).get? b=Z u:=λb u e=>jk _ _ b u (ae _ e);have hn:(fY (s.heap.push { cls := .type "dict",data := .dict #[] }) scope.names).Ns s.heap.objs.size (λ_=>O):=(Heap.Ns.new s.heap (.type "dict")).keeps (jk _ _);have aq:∀x c,(pS X.env scope.names []).lookup x=Z c->c<s.heap.objs.size:=λx c e=>by
  obtain⟨v,hv⟩:=I.cell x c (D x c e);exact hv.lt
 have t:∀x c,(dh (s.heap.objs.size+1) scope.names (pS X.env scope.names [])).lookup x=Z c->(pS X.env scope.names []).lookup x=Z c\/(s.heap.objs.size+1<=c/\(fY (s.heap.push { cls := .type "dict",data := .dict #[] }) scope.names).IsCell c O):=λx c e=>by
  have:=Ip (x:=x) (c:=c) scope.names (s.heap.push { cls := .type "dict",data := .dict #[] }) (pS X.env scope.names []);rw[bp]at this;exact this e
 have az:=Iq scope.names (s.heap.objs.size+1) (pS X.env scope.names []) (λx c e=>bQ (aq x c e)) (λx y c h1 h2=>I.ok.inj x y c (D x c h1) (D y c h2));have zx:∀b∈v5 X.stack,b∈X.env.locals::X.fs:=I.stkSub;refine⟨⟨I.ok.mod,zw.kind,I.ok.glob,I.ok.blt,au _,az,λx J=>?_,λx c J e=>?_,λz=>I.ok.hd z,I.ok.frames,.inl rfl,λb zy=>?_,I.bs,aY I.ok.bsz I.sz,λb u e zy=>?_,λb zy z=>?_,I.stack,I.stkFree⟩,
  rfl,I.bare,Un.kept E,⟨_,hn,λi x v h1 h2 h3=>?_⟩,λx c e=>?_,I.hok.fresh (au _),λx c e=>?_,λp hp=>?_,I.hok.kept E,?_⟩
 ·-- has
  have hm:scope.names.lookup x=Z cI\/scope.names.lookup x=Z jB.free:=by
   rcases J with J | J
   .exact U8 scope.names _ (.inl rfl) J
   .exact U8 scope.names _ (.inr rfl) J
  rcases hm with hm | hm
  .exact fS.mp (gm scope.names _ _ (.inl hm))
  .have l:=cU hm;obtain⟨c,aj⟩:=fc _ l rfl;exact fS.mp (gm scope.names _ _ (.inr (by rw[QiQ scope.names [] (.inl l) fc,aj];rfl)))
 ·-- cab
  have J:=a9.mp J;rcases t x c e with z | z
  .exfalso;rcases wT scope.names [] z with q | q
   .exact zw.nd _ (cU J) q
   .cases q
  .exact jA z.1
 ·-- exf
  obtain⟨_,f1,f2,f3,f4,_⟩:=hf b zy;refine⟨aM (av b zy),λx c e=>?_⟩;rcases t x c e with z | z
  .exact f4 x c (D x c z)
  .exact λq=>by
    have:=av b zy;rw[<-q]at this;exact absurd (aF (cR _) z.1) (Nat.not_lt.mpr (cb this))
 ·-- noex
  obtain⟨_,f1,f2,f3,f4,_⟩:=hf b zy;rcases f3 with z | z
  .exact I.ok.noex b u e z
  .exact absurd (aF (aC e) (aY I.ok.bsz z)) (cp _)
 ·-- exfs
  obtain⟨_,f1,f2,_⟩:=hf b zy;rcases ap.mp (zx b z) with q | q
  .exact f1 q
  .exact f2 q
 ·-- loc
  have h2:(XT nt B σ)[i]?=Z (Z v):=h2;have h1:N'[i]?=Z x:=h1;delta XT at h2;by_cases hi:i<nt
  .rw[cx (by simpa using hi),dM,aw hi]at h2;cases h2
  .rw[dm (by simpa using hi),dw,aI]at h2;cases ej:B[i-nt]? with
   |none=>rw[ej]at h2;cases h2
   |some j =>
    rw[ej]at h2;have h2:(σ[j]?).getD O=Z v:=bi h2;have ak:σ[j]?=Z (Z v):=by
     cases eq:σ[j]? with
     |none=>rw[eq]at h2;cases h2
     |some y=>rw[eq]at h2;exact congrArg Z h2
    have hz:(j,x)∈B.zip (N'.drop nt):=by
     refine bV (i:=i-nt) ?_;rw[List.getElem?_zip_eq_some];refine⟨ej,?_⟩;rw[jp,show nt+(i-nt)=i by lia];exact h1
    obtain⟨hN,M⟩:=zw.cap _ hz;have M:scope.names.lookup x=Z jB.free:=M;have l:=cU M;have T:=zw.free _ l rfl;have T:X.env.scope.names.lookup x=Z .cell\/X.env.scope.names.lookup x=Z .free:=T;have aJ:(x,cI)∉scope.names:=λq=>zw.nd _ q l;obtain⟨m0,hn0,aZ⟩:=I.loc;obtain⟨u,ru,lk⟩:=aZ j x v hN ak (.inr T);refine⟨u,ru,?_⟩;rcases lk with⟨k0,_⟩|⟨_,c,ec,zc⟩
    .have k0:X.env.scope.names.lookup x=Z .local:=k0;rcases T with T | T<;>(rw[k0]at T;cases T)
    .refine .inr ⟨?_,c,((Io scope.names _ _ aJ).trans (QiQ scope.names [] (.inl l) fc)).trans ec,?_⟩
     .have h3:(Qx X.env.scope scope).names.lookup x=Z .local\/(Qx X.env.scope scope).names.lookup x=Z .cell\/(Qx X.env.scope scope).names.lookup x=Z .free:=h3;rcases h3 with h3 | h3 | h3
      .rcases Qjk M h3 with z | z<;>cases z
      .exact .inl h3
      .exact .inr h3
     .obtain⟨ob,ho,hd⟩:=zc;exact⟨ob,E c ob ho,hd⟩
 ·-- cell
  rcases t x c e with z | z
  .obtain⟨v,ob,ho,hd⟩:=I.cell x c (D x c z);exact⟨v,ob,E c ob ho,hd⟩
  .exact⟨O,z.2⟩
 ·-- freeC
  rcases t x c e with z | z
  .exact I.freeC x c (D x c z)
  .exact I.hok.fresh (jA z.1)
 ·-- pin
  have bv:p∈X.pn++L:=by
   rcases aS.mp hp with z | z
   .exact z
   .cases z
  obtain⟨e,n,ne,nf,d⟩:=I.pin p bv;refine⟨E _ _ e,n,aM (aC e),λz=>?_,d⟩;rcases ap.mp (zx p.1 z) with q | q
  .exact ne q
  .exact nf q
 ·-- len
  show(XT nt B σ).length=N'.length;delta XT;rw[zw.len];simp
end
section
def QfS{J:It}{it:Addr}{tn:Nat->Heap->Prop}{g:TG}{tc:TT}{te:TE}{Qd:Addr->Hp->Prop}{RR:Value->Addr->kO->aH->Prop}{E:Value->aH->Prop}(I:Inv X l σ H s)(hc:X.calm=Y)(ck:qi X.N X.env.scope scope N' nt L)(eJ:relabel scope X.env=Qx X.env.scope scope)(T:rW X.prog X.w X.K tg J M it tn)(h0:tn 0 s.heap)(hf:∀b∈M,qp X l H b)(hg:∀l cl C s H M,PG (YA X (qX scope) l N' (Qx X.env.scope scope) cl C s H M) tg g)(ht:∀l cl C s H M,uz (YA X (qX scope) l N' (Qx X.env.scope scope) cl C s H M) bv tc)(he:∀l cl C s H M,PE (YA X (qX scope) l N' (Qx X.env.scope scope) cl C s H M) bz te)(rd:NT J nt L g tc te σ H Qd)(dk:∀D C s' B,Inv X l σ B s'->(∃m,s'.heap.Ns C m)->qp X l B C->Qd D B->RR (.ref D) C (.ok .next) s') :
  aE (model X.prog X.w) X.A (newList []) (λbq zx=>aE (model X.prog X.w) X.A (lU scope X.env.globals (pS X.env scope.names []) [] X.env.qual O .none (Z X.env)) (λaz bj =>
   gv (model X.prog X.w) X.A (.compStart (.ListComp bz [⟨tg,iter,bv,0⟩] scope dJ) 0 (.ref it) bq { az with scope:=relabel scope X.env }) (RR bq az.locals) bj) E zx) E s:=by
 have hD:H s.heap.objs.size=O:=I.fresh;obtain⟨W,⟨m0,w0⟩,turn⟩:=rd s.heap.objs.size hD;refine cB (Cs ?_);have I3:Inv X l σ (pf H s.heap.objs.size (.lst [])) { s with heap:=s.heap.push { cls := .type "list",data := .seq ([]:List Value).toArray } }:=I.lnew (t':=s.toks) .nil (b9 _);have bJ:∀b∈M,b<s.heap.objs.size:=λb j=>by
  obtain⟨o,e,_⟩:=T.obj 0 _ h0 b j;exact aC e
 have bZ:∀b∈M,qp X l (pf H s.heap.objs.size (.lst [])) b:=λb j=>by
  obtain⟨f0,f⟩:=hf b j;exact⟨by rw[Qh (aM (bJ b j))];exact f0,f⟩
 have aq:∀b∈M,b<(s.heap.push { cls := .type "list",data := .seq ([]:List Value).toArray }).objs.size:=λb j=>by
  rw[bp];exact bQ (bJ b j)
 have IB:=wU (tk:=s.toks) I3 hc ck bZ aq;have aj:∀b o,s.heap.get? b=Z o->(fY ((s.heap.push { cls := .type "list",data := .seq ([]:List Value).toArray }).push { cls := .type "dict",data := .dict #[] }) scope.names).get? b=Z o:=λb o e=>jk _ _ b o (ae _ (ae _ e));have cv:tn 0 (fY ((s.heap.push { cls := .type "list",data := .seq ([]:List Value).toArray }).push { cls := .type "dict",data := .dict #[] }) scope.names):=T.keep _ _ _ h0 λb _ o e=>aj b o e;have cz:=hg l (dh ((s.heap.push { cls := .type "list",data := .seq ([]:List Value).toArray }).objs.size+1) scope.names (pS X.env scope.names [])) (s.heap.push { cls := .type "list",data := .seq ([]:List Value).toArray }).objs.size { s with heap:=s.heap.push { cls := .type "list",data := .seq ([]:List Value).toArray } } (pf H s.heap.objs.size (.lst [])) M;have cq:=ht l (dh ((s.heap.push { cls := .type "list",data := .seq ([]:List Value).toArray }).objs.size+1) scope.names (pS X.env scope.names [])) (s.heap.push { cls := .type "list",data := .seq ([]:List Value).toArray }).objs.size { s with heap:=s.heap.push { cls := .type "list",data := .seq ([]:List Value).toArray } } (pf H s.heap.objs.size (.lst [])) M;have cj:=he l (dh ((s.heap.push { cls := .type "list",data := .seq ([]:List Value).toArray }).objs.size+1) scope.names (pS X.env scope.names [])) (s.heap.push { cls := .type "list",data := .seq ([]:List Value).toArray }).objs.size { s with heap:=s.heap.push { cls := .type "list",data := .seq ([]:List Value).toArray } } (pf H s.heap.objs.size (.lst [])) M;have hY:∃zy:Cx,zy=YA X (qX scope) l N' (Qx X.env.scope scope) (dh ((s.heap.push { cls := .type "list",data := .seq ([]:List Value).toArray }).objs.size+1) scope.names (pS X.env scope.names [])) (s.heap.push { cls := .type "list",data := .seq ([]:List Value).toArray }).objs.size { s with heap:=s.heap.push { cls := .type "list",data := .seq ([]:List Value).toArray } } (pf H s.heap.objs.size (.lst [])) M:=⟨_,rfl⟩
 obtain⟨zy,eY⟩:=hY;have eP:zy.prog=X.prog:=by rw[eY];rfl
 have eW:zy.w=X.w:=by rw[eY];rfl
 have eK:zy.K=X.K:=by rw[eY];rfl
 have eA:zy.A=X.A:=by rw[eY];rfl
 have eC:zy.calm=Y:=by rw[eY];exact hc
 have eE:zy.xe=λ_ _=>False:=by rw[eY];rfl
 have cJ:zy.env=wQ X.env (Qx X.env.scope scope) (dh ((s.heap.push { cls := .type "list",data := .seq ([]:List Value).toArray }).objs.size+1) scope.names (pS X.env scope.names [])) (s.heap.push { cls := .type "list",data := .seq ([]:List Value).toArray }).objs.size:=by rw[eY];rfl
 have back:∀{B:Hp}{s':aH},Inv zy [] (XT nt L σ) B s'->Inv X l σ B s'/\(∃m,s'.heap.Ns (s.heap.push { cls := .type "list",data := .seq ([]:List Value).toArray }).objs.size m)/\qp X l B (s.heap.push { cls := .type "list",data := .seq ([]:List Value).toArray }).objs.size:=by
  intro B s' IY;subst eY;refine⟨I3.call' (ch:=M) IY.os IY.base IY.hok IY.bare λb j=>?_,?_,I3.fpOk (au _) IY.free⟩
  .obtain⟨_,f1,_,f3,f4,f5⟩:=hf b j;exact⟨f3,f1,f4,f5⟩
  .obtain⟨m,hn,_⟩:=IY.loc;exact⟨m,hn⟩
 have ak:∀{B:Hp},(∀b∈M,B b=O)->∀b∈M,qp zy [] B b:=by
  intro B hn b j;subst eY;obtain⟨_,f1,f2,f3,f4,f5⟩:=hf b j;refine⟨hn b j,aM (aq b j),IB.ok.exfs b j,.inl j,(IB.ok.exf b j).2,λp hp=>?_⟩;rcases aS.mp hp with z | z
  .exact f5 p z
  .cases z
 have IB:Inv zy [] (XT nt L σ) (pf H s.heap.objs.size (.lst [])) { s with heap:=(fY ((s.heap.push { cls := .type "list",data := .seq ([]:List Value).toArray }).push { cls := .type "dict",data := .dict #[] }) scope.names),toks:=s.toks }:=by rw[eY];exact IB
 rw[<-eY]at cz cq cj;have av:∀zx:aH,zx={ s with heap:=(fY ((s.heap.push { cls := .type "list",data := .seq ([]:List Value).toArray }).push { cls := .type "dict",data := .dict #[] }) scope.names),toks:=s.toks } ->
   gv (model X.prog X.w) X.A (.compLoop (.ListComp bz [⟨tg,iter,bv,0⟩] scope dJ) 0 (.ref it) (.ref s.heap.objs.size) zy.env) (RR (.ref s.heap.objs.size) (s.heap.push { cls := .type "list",data := .seq ([]:List Value).toArray }).objs.size) zx:=by
  rintro zx rfl;refine QhT (λn s'=>∃i xs B,Inv zy [] (XT nt L σ) B s'/\tn i s'.heap/\(∀b∈M,B b=O)/\W i n xs B) ?_ m0 ⟨0,[],_,IB,cv,λb j=>(bZ b j).1,w0⟩;rintro n s4 ⟨i,xs,H4,I4,cZ,dz,w4⟩;rcases turn i n xs H4 w4 with⟨stop,q⟩|⟨go,step⟩
  .have z:=T.done zy eP eW eK eC i [] s4 _ H4 (λ_ _=>False) I4 (ak dz) cZ stop;rw[eA]at z;refine pA z λr s5 ⟨hr,I5⟩=>?_;subst hr;obtain⟨a1,a2,a3⟩:=back I5;exact dk _ _ s5 H4 a1 a2 a3 q
  .have z:=T.item zy eP eW eK eC i [] s4 _ H4 (λ_ _=>False) I4 (ak dz) cZ go;rw[eA]at z;refine pA z λr s5 zw=>?_;obtain⟨u,hr,h5⟩:=zw;subst hr;refine pA h5 λ_ s6 zw=>?_;obtain⟨x,H6,I6,r6,y6,aJ,dZ⟩:=zw;have ev:=I6.pinned (ak dZ) (T.obj _ _ aJ);have again:∀{t:St}{H7:Hp}{s7:aH}{aZ:List V},Inv zy ([]++NB M s6.heap) t H7 s7->Gz (XT nt L σ) t->(∃m',m'<n/\W (i+1) m' aZ H7) ->
     ∃m,m<n/\∃i xs B,Inv zy [] (XT nt L σ) B s7/\tn i s7.heap/\(∀b∈M,B b=O)/\W i m xs B:=λ{t H7 s7 aZ} I7 ex zw=>by
    obtain⟨m',hm,w7⟩:=zw;refine⟨m',hm,i+1,aZ,H7,(I7.unpinned).weak ex.1.symm ex.2,T.keep _ _ _ aJ λb j o e=>(I7.pin (b,o) (bx _ (bx _ (Sl j e)))).1,λb j=>?_,w7⟩;obtain⟨o,e,d⟩:=T.obj _ _ aJ b j;exact(I7.pin (b,o) (bx _ (bx _ (Sl j e)))).2.1
   have z2:=cz _ s6 _ H6 x u _ ev r6 (step x H6 y6);rw[eP,eW,eA,eE]at z2;refine pA z2 λ_ s7 zw=>?_;obtain⟨t,H7,I7,dq,q7⟩:=zw;have z3:=cq _ s7 t H7 _ I7 q7;rw[eP,eW,eA,eE]at z3;refine pA z3 λb s8 zw=>?_;obtain⟨H8,I8,q8⟩:=zw;cases b with
   |false =>
    rw[aN f8]at q8 |-;exact again I8 dq q8
   |true =>
    rw[aw rfl]at q8 |-;have z4:=cj _ s8 t H8 _ I8 q8;rw[eP,eW,eA,eE]at z4;refine pA z4 λxv s9 zw=>?_;obtain⟨v,H9,I9,r9,ez,eq,q9⟩:=zw;have z5:=QfG (X:=zy) _ s9 t H9 (.ref s.heap.objs.size) [v] (.ref s.heap.objs.size) [xv] (λ_ B=>∃m',m'<n/\W (i+1) m' (xs++[v]) B) I9 rfl (.cons r9 .nil) ⟨_,xs,v,rfl,rfl,ez,eq,q9⟩;rw[eP,eW,eA,eE]at z5;refine pA z5 λ_ s10 zw=>?_;obtain⟨_,eZ,ej,_,ek⟩:=zw;exact again ej dq ek
 rw[cJ]at av;refine codeAny_compStart_list (av _ rfl) (T.self _ 0 _ _ _ cv (av _ rfl))
end
def qa.C(l:qa N osc scope D nt B):qi N osc scope D nt B:=⟨l.kind,λx q=>absurd rfl (l.nocell _ q),l.locs,l.free,l.len,l.cap⟩
def qa.eqC(B:qa N osc scope D nt l) X:YA X (qX scope)=YY X:=by
 have own:qX scope=λ_=>U:=funext λx=>by
  show(scope.names.lookup x==Z cI)=U;rw[bc];exact λq=>B.nocell _ (cU q) rfl
 rw[own];rfl
section
def wV{RR:Value->Addr->kO->aH->Prop}(I:Inv X l σ H s)(hc:X.calm=Y)(ck:qa X.N X.env.scope scope N' nt M)(zx:relabel scope X.env=Qx X.env.scope scope)(T:rW X.prog X.w X.K tg J L it tn)(h0:tn 0 s.heap)(hf:∀b∈L,qp X l H b)(hg:∀l zw C s H L,PG (YY X l N' (Qx X.env.scope scope) zw C s H L) tg g)(ht:∀l zw C s H L,uz (YY X l N' (Qx X.env.scope scope) zw C s H L) aq tc)(he:∀l zw C s H L,PE (YY X l N' (Qx X.env.scope scope) zw C s H L) aj te)(rd:NT J nt M g tc te σ H Qd)(ak:∀D C s' H',Inv X l σ H' s'->(∃m,s'.heap.Ns C m)->qp X l H' C->Qd D H'->RR (.ref D) C (.ok .next) s') :
  aE (model X.prog X.w) X.A (newList []) (λzy av=>aE (model X.prog X.w) X.A (lU scope X.env.globals (pS X.env scope.names []) [] X.env.qual O .none (Z X.env)) (λB az =>
   gv (model X.prog X.w) X.A (.compStart (.ListComp aj [⟨tg,iter,aq,0⟩] scope aJ) 0 (.ref it) zy { B with scope:=relabel scope X.env }) (RR zy B.locals) az) E av) E s:=by
 have e:=ck.eqC X;exact QfS I hc ck.C zx T h0 hf (by rw[e];exact hg) (by rw[e];exact ht) (by rw[e];exact he) rd ak
def qp.turn(I:Inv X l D B s')(f:qp X l B C)(hs:bN C s'.heap L):Inv X l D B { s' with heap:=L }:=by
 obtain⟨f0,j,J,t,u,E⟩:=f;exact I.turned (λb o H e=>hs.extBut b o H e) f0 j t u E
def NU(B:TI)(nt:Nat)(l:List Nat)(g:TG)(tc:TT)(te:TE):TE:=λj H Q=>B j H λJ t=>NT J nt l g tc te j t λD u=>Q (.ref D) u
def Ct(hc:X.calm=Y)(zw:qa X.N X.env.scope scope zy nt L)(hi:PI X tg iter wi)(hg:∀l M C s H B,PG (YY X l zy (Qx X.env.scope scope) M C s H B) tg g)(ht:∀l M C s H B,uz (YY X l zy (Qx X.env.scope scope) M C s H B) av tc)(he:∀l M C s H B,PE (YY X l zy (Qx X.env.scope scope) M C s H B) az te)(hs:∀x,cC iter X.env x=pure x:=by intro _;rfl)(zx:relabel scope X.env=Qx X.env.scope scope:=by rfl) :
  PE X (.ListComp az [⟨tg,iter,av,0⟩] scope ak) (NU wi nt L g tc te):=by
 intro l s σ H Q I h;refine mM rfl hs (QbF (QmM I zw)) zw.kind zw.locs (pA (hi l s σ H _ I h) λxv aq j=>pA j λaJ aj t=>?_);obtain⟨it,B,tn,J,H2,e,I2,T,u,f2,rd⟩:=t;subst e;refine wV I2 hc zw zx T u f2 hg ht he rd ?_;intro D C s' H' I' hm f q;obtain⟨m,hm⟩:=hm;exact⟨m,hm,λh' E=>⟨.ref D,H',qp.turn I' f E,rfl,q⟩⟩
def wW(i:Nat)(B:TI)(nt:Nat)(l:List Nat)(g:TG)(tc:TT)(te:TE):TS:=λD j H=>B j H λJ t=>NT J nt l g tc te j t λd u=>D.nx (j.set i (Z (.ref d))) u
def Qhw(hN:X.N.Nodup)(az:X.N[i]?=Z y)(hy:X.env.scope.names.lookup y=Z .local)(hc:X.calm=Y)(ck:qi X.N X.env.scope scope N' nt L)(hi:PI X tg iter wi)(hg:∀l M C s H B,PG (YA X (qX scope) l N' (Qx X.env.scope scope) M C s H B) tg g)(ht:∀l M C s H B,uz (YA X (qX scope) l N' (Qx X.env.scope scope) M C s H B) zx tc)(he:∀l M C s H B,PE (YA X (qX scope) l N' (Qx X.env.scope scope) M C s H B) zw te)(aq:c7 (.ListComp zw [⟨tg,iter,zx,0⟩] scope aj) (Z (.Name y py)) zy.line X.env=pure Y:=by rfl)(hs:∀x,cC iter X.env x=pure x:=by intro _;rfl)(av:relabel scope X.env=Qx X.env.scope scope:=by rfl) :
  PS X (.Assign [.Name y py] (.ListComp zw [⟨tg,iter,zx,0⟩] scope aj) zy) (wW i wi nt L g tc te):=by
 intro l s σ H D I h;rw[exec_Assign_Name_used _ _ _ _ aq];refine aa (wpAny_standAt (aa ?_));refine aa (fh (mM rfl hs (QbF (Qea I ck)) ck.kind ck.locs
  (pA (hi l s σ H _ I h) λxv bz j=>pA j λbj bq t=>?_)) (λ_ s' hq=>af (af hq)) λ_ _ e=>e)
 obtain⟨it,B,tn,J,H2,e,I2,T,ak,f2,rd⟩:=t;subst e;refine QfS I2 hc ck av T ak f2 hg ht he rd ?_;intro d C s' H' I' hm f q;obtain⟨m,hm⟩:=hm;refine wpAny_assign_Name (Z0 I' hN az (.inl hy) (show pq (.ref d) (.ref d) from rfl) (λbJ aJ u=>?_) (.inr hy));obtain⟨a,sb,E⟩:=u;have aZ:C≠a:=by
  rcases E with E | E
  .rw[E];exact f.2.1
  .exact λz=>f.2.2.2.2.1 _ _ E z.symm
 exact⟨m,hm.sameBut sb aZ,λh' bv=>⟨_,H',qp.turn aJ f bv,q⟩⟩
end
inductive PV where
 |non | bl (b:Bool) | int (i:Int) | str (x:Str) | tup (xs:List PV) | lst (xs:List PV) | obj (C:Addr) (ks:List Str) (ps:List PV) | opq (a:Addr)
mutual
def o3(K:ab)(F:Hp):PV->V->Prop
 |.non,v=>v = .non
 |.bl b,v=>v = .bl b
 |.int i,v=>v = .int i
 |.str x,v=>v = .str x
 |.tup xs,v=>∃a vs,v = .ref a/\qz K F a vs/\oP K F xs vs
 |.lst xs,v=>∃a vs,v = .ref a/\qg K F a vs/\oP K F xs vs
 |.obj C ks ps,v=>∃a j vs,v = .ref a/\F a=Z (.ins C j (ks.zip vs))/\F j=Z (.own a)/\ks.length=vs.length/\oP K F ps vs
 |.opq a,v=>v = .ref a
def oP(K:ab)(F:Hp):List PV->List V->Prop
 |[],vs=>vs=[]
 |x::xs,vs=>∃v r,vs=v::r/\o3 K F x v/\oP K F xs r
end
def _root_.L2.Same.seqT{K:ab}(e:Same H l)(h:qz K H a xs):qz K l a xs:=by
 rcases h with(h|⟨o,h⟩) | h
 .exact .inl (.inl (e _ _ h))
 .exact .inl (.inr ⟨o,e _ _ h⟩)
 .exact .inr h
section
mutual
theorem o3.mono{K:ab}{F:Hp}(e:Same F l):∀{p:PV}{v:V},o3 K F p v->o3 K l p v
 |.non,_,h=>h
 |.bl _,_,h=>h
 |.int _,_,h=>h
 |.str _,_,h=>h
 |.tup xs,_,h=>by
  unfold o3 at h |-;obtain⟨a,vs,h1,h2,h3⟩:=h;exact⟨a,vs,h1,e.seqT h2,oP.mono e h3⟩
 |.lst xs,_,h=>by
  unfold o3 at h |-;obtain⟨a,vs,h1,h2,h3⟩:=h;exact⟨a,vs,h1,e.seq h2,oP.mono e h3⟩
 |.obj C ks ps,_,h=>by
  unfold o3 at h |-;obtain⟨a,j,vs,h1,h2,h3,t,u⟩:=h;exact⟨a,j,vs,h1,e _ _ h2,e _ _ h3,t,oP.mono e u⟩
 |.opq _,_,h=>h
theorem oP.mono{K:ab}{F:Hp}(e:Same F l):∀{ps:List PV}{vs:List V},oP K F ps vs->oP K l ps vs
 |[],_,h=>h
 |x::xs,_,h=>by
  unfold oP at h |-;obtain⟨v,r,h1,h2,h3⟩:=h;exact⟨v,r,h1,o3.mono e h2,oP.mono e h3⟩
end
def oP.nil{K:ab}{F:Hp}:oP K F [] []:=by rfl
def oP.cons{K:ab}{F:Hp}(h:o3 K F p v)(t:oP K F ps vs):oP K F (p::ps) (v::vs):=by
 exact⟨v,vs,rfl,h,t⟩
def oP.length{K:ab}{F:Hp}:∀{ps:List PV}{vs:List V},oP K F ps vs->vs.length=ps.length:=by
 intro ps;induction ps with
 |nil =>
  intro _ h;unfold oP at h;subst h;rfl
 |cons x xs j =>
  intro _ h;unfold oP at h;obtain⟨v,r,rfl,_,h3⟩:=h;simp[j h3]
def oP.get{K:ab}{F:Hp}:∀{ps:List PV}{vs:List V}{i:Nat}{p:PV},oP K F ps vs->ps[i]?=Z p->∃v,vs[i]?=Z v/\o3 K F p v:=by
 intro ps;induction ps with
 |nil =>
  intro _ _ _ _ e;simp at e
 |cons x xs j =>
  intro _ i p h e;obtain⟨v,r,rfl,h2,h3⟩:=h;cases i with
  |zero=>simp at e;subst e;exact⟨v,rfl,h2⟩
  |succ i =>
   obtain⟨u,e1,e2⟩:=j h3 (by simpa using e);exact⟨u,by simpa using e1,e2⟩
def oP.back{K:ab}{F:Hp}{i:Nat}(h:oP K F ps vs)(e:vs[i]?=Z v):∃p,ps[i]?=Z p/\o3 K F p v:=by
 cases q:ps[i]? with
 |none =>
  have h1 :=kF.mp q;have h2 :=(ax.mp e).1;rw[h.length]at h2;lia
 |some p =>
  obtain⟨u,e1,e2⟩:=h.get q;rw[e]at e1;cases e1;exact⟨p,rfl,e2⟩
def oP.append{K:ab}{F:Hp}:∀{ps qs:List PV}{vs us:List V},oP K F ps vs->oP K F qs us->oP K F (ps++qs) (vs++us):=by
 intro ps;induction ps with
 |nil =>
  intro _ _ _ h t;subst h;exact t
 |cons x xs j =>
  intro _ _ _ h t;obtain⟨v,r,rfl,h2,h3⟩:=h;exact .cons h2 (j h3 t)
def oP.snoc{K:ab}{F:Hp}(h:oP K F ps vs)(t:o3 K F p v):oP K F (ps++[p]) (vs++[v]):=h.append (.cons t .nil)
theorem oP.take{K:ab}{F:Hp}:∀{ps:List PV}{vs:List V} n,oP K F ps vs->oP K F (ps.take n) (vs.take n)
 |_,_,0,_=>by simpa using oP.nil
 |[],_,n+1,h=>by unfold oP at h;subst h;exact .nil
 |x::xs,_,n+1,h=>by
  unfold oP at h;obtain⟨v,r,rfl,h2,h3⟩:=h;exact .cons h2 (oP.take n h3)
theorem oP.drop{K:ab}{F:Hp}:∀{ps:List PV}{vs:List V} n,oP K F ps vs->oP K F (ps.drop n) (vs.drop n)
 |_,_,0,h=>by simpa using h
 |[],_,n+1,h=>by subst h;exact .nil
 |x::xs,_,n+1,h=>by
  obtain⟨v,r,rfl,h2,h3⟩:=h;simpa using oP.drop n h3
theorem oP.set{K:ab}{F:Hp}:∀{ps:List PV}{vs:List V} i {p:PV} {v:V},oP K F ps vs->o3 K F p v->oP K F (ps.set i p) (vs.set i v)
 |[],_,_,_,_,h,_=>by subst h;exact .nil
 |x::xs,_,0,_,_,h,q=>by
  obtain⟨v,r,rfl,h2,h3⟩:=h;exact .cons q h3
 |x::xs,_,i+1,_,_,h,q=>by
  obtain⟨v,r,rfl,h2,h3⟩:=h;exact .cons h2 (oP.set i h3 q)
def oP.reverse{K:ab}{F:Hp}(h:oP K F ps vs):oP K F ps.reverse vs.reverse:=by
 induction ps generalizing vs with
 |nil=>subst h;exact .nil
 |cons x xs j =>
  obtain⟨v,r,rfl,h2,h3⟩:=h;rw[eL,eL];exact(j h3).append (.cons h2 .nil)
end
structure pd (F H F' H':Hp):Prop where
 ext:Same F F'
 sub:Same F' H'
 same:Same H H'
 new:∀a o,F' a=Z o->F a=Z o\/H a=O
def pd.refl(h:Same F H):pd F H F H:=⟨Same.refl _,h,Same.refl _,λ_ _ e=>.inl e⟩
def pd.trans{F H l B D I:Hp}(a:pd F H l B)(b:pd l B D I):pd F H D I :=
 ⟨a.ext.trans b.ext,b.sub,a.same.trans b.same,λc o e=>by
  rcases b.new c o e with z | z
  .exact a.new c o z
  .exact .inr (a.same.free z)⟩
def pd.laid(h:Same F H)(n:H p=O):pd F H (pf F p o) (pf H p o):=by
 have j:F p=O:=by
  cases q:F p with
  |none=>rfl
  |some u=>rw[h p u q]at n;cases n
 refine⟨λa u e=>?_,λa u e=>?_,λa u e=>?_,λa u e=>?_⟩
 .rw[Qh (Qg e j)];exact e
 .by_cases z:a=p
  .subst z;rw[Qf]at e |-;exact e
  .rw[Qh z]at e |-;exact h a u e
 .rw[Qh (Qg e n)];exact e
 .by_cases z:a=p
  .subst z;exact .inr n
  .rw[Qh z]at e;exact .inl e
def pd.side(h:Same F H)(n:H p=O):pd F H F (pf H p o):=by
 refine⟨Same.refl _,λa u e=>?_,λa u e=>?_,λa u e=>.inl e⟩
 .rw[Qh (Qg (h a u e) n)];exact h a u e
 .rw[Qh (Qg e n)];exact e
inductive Slot where
 |un | fz (p:PV) | ow (xs:List PV)
abbrev oN:=List Slot
def Slot.val:Slot->Option PV
 |.un=>O
 |.fz p=>Z p
 |.ow xs=>Z (.lst xs)
noncomputable def qr(l:oN)(i:Nat):Option PV:=(l[i]?).bind Slot.val
def qf(K:ab)(F:Hp)(l:St)(B:oN)(ms:List Nat):Prop:=∀i∈ms,∀p,qr B i=Z p->∃v,l[i]?=Z (Z v)/\o3 K F p v
def qf.mono{K:ab}(h:qf K F l B ms)(e:Same F D):qf K D l B ms:=λi j p t=>by
 obtain⟨v,h1,h2⟩:=h i j p t;exact⟨v,h1,h2.mono e⟩
def qf.left{K:ab}(h:qf K F l B (ms++ns)):qf K F l B ms:=λi j=>h i (c9 _ j)
def qf.right{K:ab}(h:qf K F l B (ms++ns)):qf K F l B ns:=λi j=>h i (bx _ j)
def Wv(K:ab)(F H:Hp)(r:PV)(Q:VK):Prop:=∀v j l,pd F H l j->o3 K l r v->Q v j
def Wo(K:ab)(F H:Hp)(xs:List PV)(Q:VK):Prop:=∀a vs j l,pd F H l j->H a=O->l a=O->j a=Z (.lst vs)->oP K l xs vs->Q (.ref a) j
def Wv.go{K:ab}(w:Wv K F H r Q)(g:pd F H l B):Wv K l B r Q:=λv j t u=>w v j t (g.trans u)
def Wo.go{K:ab}(w:Wo K F H r Q)(g:pd F H l B):Wo K l B r Q:=λa vs j t u n=>w a vs j t (g.trans u) (g.same.free n)
def Wv.of_lst{K:ab}(w:Wv K F H (.lst xs) Q):Wo K F H xs Q:=by
 intro a vs t j g n B e r;have l:Same j (pf j a (.lst vs)):=λb u q=>by rw[Qh (Qg q B)];exact q
 refine w (.ref a) t (pf j a (.lst vs)) ⟨g.ext.trans l,λb u q=>?_,g.same,λb u q=>?_⟩ ?_
 .by_cases z:b=a
  .subst z;rw[Qf]at q;rw[e];exact q
  .rw[Qh z]at q;exact g.sub b u q
 .by_cases z:b=a
  .subst z;exact .inr n
  .rw[Qh z]at q;exact g.new b u q
 .unfold o3;exact⟨a,vs,rfl,.of Qf,r.mono l⟩
def Wv.here{K:ab}(w:Wv K F H r Q)(h:Same F H)(q:o3 K F r v):Q v H:=w v H F (.refl h) q
abbrev pI:=oN->Option PV
inductive tM (K:ab) (ms:List Nat) (m:pI) (σ:St) (H:Hp) (Q:VK):Prop
 |mk F γ r:Same F H->qf K F σ γ ms->m γ=Z r->Wv K F H r Q->tM K ms m σ H Q
inductive NV (K:ab) (ms:List Nat) (m:oN->Option (List PV)) (σ:St) (H:Hp) (Q:VK):Prop
 |mk F γ r:Same F H->qf K F σ γ ms->m γ=Z r->Wo K F H r Q->NV K ms m σ H Q
inductive GA (K:ab) (ms:List Nat) (m:oN->Option Bool) (σ:St) (H:Hp) (Q:Bool->Hp->Prop):Prop
 |mk F γ r:Same F H->qf K F σ γ ms->m γ=Z r->(∀H' F',pd F H F' H'->Q r H')->GA K ms m σ H Q
inductive vc (K:ab) (ms:List Nat) (m:oN->Option (List PV)) (σ:St) (H:Hp) (Q:List V->Hp->Prop):Prop
 |mk F γ r:Same F H->qf K F σ γ ms->m γ=Z r->(∀vs H' F',pd F H F' H'->oP K F' r vs->Q vs H')->vc K ms m σ H Q
def EM(X:Cx)(ms:List Nat)(e:Expr)(m:pI):Prop:=PE X e (tM X.K ms m)
def EO(X:Cx)(ms:List Nat)(e:Expr)(m:oN->Option (List PV)):Prop:=PE X e (NV X.K ms m)
def TM(X:Cx)(ms:List Nat)(e:Expr)(m:oN->Option Bool):Prop:=PT X e (GA X.K ms m)
def AM(X:Cx)(ms:List Nat)(l:List Expr)(m:oN->Option (List PV)):Prop:=PA X l (vc X.K ms m)
section
def _root_.L2.PE.imp(h:PE X e t)(i:∀l H Q,t' l H Q->t l H Q):PE X e t':=λj s l H Q I q=>h j s l H Q I (i l H Q q)
def _root_.L2.PT.imp(h:PT X e t)(i:∀l H Q,t' l H Q->t l H Q):PT X e t':=λj s l H Q I q=>h j s l H Q I (i l H Q q)
def _root_.L2.PA.imp(h:PA X B t)(i:∀l H Q,t' l H Q->t l H Q):PA X B t':=λu j s l H Q I q=>h u j s l H Q I (i l H Q q)
def _root_.L2.PS.imp{st:Stmt}(h:PS X st t)(i:∀D l H,t' D l H->t D l H):PS X st t':=λj s l H D I q=>h j s l H D I (i D l H q)
noncomputable def o6(m:oN->Option (List PV)):pI:=λj=>(m j).map PV.lst
def EO.em{m:oN->Option (List PV)}(h:EO X ms e m):EM X ms e (o6 m):=PE.imp h λt H Q l=>by
 obtain⟨F,j,r,h1,h2,h3,w⟩:=l;delta o6 at h3;cases q:m j with
 |none=>grind
 |some xs =>
  rw[q]at h3;cases h3;exact⟨F,j,xs,h1,h2,q,w.of_lst⟩
noncomputable def nP(i:Nat):pI:=λj=>qr j i
noncomputable def mC(p:PV):pI:=λ_=>Z p
def Iu i (h:PE X (.Name x l) (qN i)):EM X [i] (.Name x l) (nP i):=PE.imp h λt H Q j=>by
 obtain⟨F,u,r,h1,h2,h3,w⟩:=j;obtain⟨v,e1,e2⟩:=h2 i (by simp) r h3;exact⟨v,e1,w.here h1 e2⟩
def wX:EM X [] (.Constant (.int i) j l) (mC (.int i)):=PE.imp Hz λu H Q t=>by
 obtain⟨F,B,r,h1,h2,h3,w⟩:=t;cases h3;exact w.here h1 (by rfl)
def NW:EM X [] (.Constant (.bool i) j l) (mC (.bl i)):=PE.imp Nr λu H Q t=>by
 obtain⟨F,B,r,h1,h2,h3,w⟩:=t;cases h3;exact w.here h1 (by rfl)
def Iv:EM X [] (.Constant .none j l) (mC .non):=PE.imp HA λu H Q t=>by
 obtain⟨F,B,r,h1,h2,h3,w⟩:=t;cases h3;exact w.here h1 (by rfl)
def wY:EM X [] (.Constant (.str i) j l) (mC (.str i)):=PE.imp HB λu H Q t=>by
 obtain⟨F,B,r,h1,h2,h3,w⟩:=t;cases h3;exact w.here h1 (by rfl)
def MW(K:ab)(f:PV->PV->Option PV):R2:=λx y H Q=>∃F p q r,Same F H/\o3 K F p x/\o3 K F q y/\f p q=Z r/\Wv K F H r Q
def NX(K:ab)(f:PV->PV->Option (List PV)):R2:=λx y H Q=>∃F p q r,Same F H/\o3 K F p x/\o3 K F q y/\f p q=Z r/\Wo K F H r Q
noncomputable def oJ(f:PV->PV->Option α)(l B:pI):oN->Option α:=λj=>(l j).bind λx=>(B j).bind λy=>f x y
def Ss{K:ab}(h:tM K (ms++ns) (oJ f B D) I H Q):MR (MW K f) (tM K ms B) (tM K ns D) I H Q:=by
 obtain⟨F,j,r,h1,h2,h3,w⟩:=h;delta oJ at h3;cases e1:B j with
 |none=>grind
 |some x =>
  cases e2:D j with
  |none=>grind
  |some y =>
   rw[e1,e2]at h3;refine⟨F,j,x,h1,h2.left,e1,λvx M u l E=>⟨u,j,y,l.sub,h2.right.mono l.ext,e2,λzy T J t L=>?_⟩⟩;exact⟨J,x,y,r,t.sub,E.mono t.ext,L,h3,w.go (l.trans t)⟩
def Cu{K:ab}(h:NV K (ms++ns) (oJ f B D) I H Q):MR (NX K f) (tM K ms B) (tM K ns D) I H Q:=by
 obtain⟨F,j,r,h1,h2,h3,w⟩:=h;unfold oJ at h3;cases e1:B j with
 |none=>rw[e1]at h3;cases h3
 |some x =>
  cases e2:D j with
  |none=>rw[e1,e2]at h3;cases h3
  |some y =>
   rw[e1,e2]at h3;refine⟨F,j,x,h1,h2.left,e1,λvx M u l E=>⟨u,j,y,l.sub,h2.right.mono l.ext,e2,λzy T J t L=>?_⟩⟩;exact⟨J,x,y,r,t.sub,E.mono t.ext,L,h3,w.go (l.trans t)⟩
def qY(X:Cx)(g:Value->Value->Sem Value)(f:PV->PV->Option PV):Prop:=qH X g (MW X.K f)
def OpO(X:Cx)(g:Value->Value->Sem Value)(f:PV->PV->Option (List PV)):Prop:=qH X g (NX X.K f)
def NY(ho:qY X (cu l) f)(B:EM X ms a D)(I:EM X ns b L):EM X (ms++ns) (.BinOp a l b M) (oJ f D L) :=
 PE.imp (wx ho B I) λ_ _ _ h=>Ss h
def NZ(ho:OpO X (cu l) f)(B:EM X ms a D)(I:EM X ns b L):EO X (ms++ns) (.BinOp a l b M) (oJ f D L) :=
 PE.imp (wx ho B I) λ_ _ _ h=>Cu h
def Iw(ho:qY X (bO l) f)(B:EM X ms a D)(I:EM X ns b L)(hm:jR l b=U):EM X (ms++ns) (.Compare a [l] [b] M) (oJ f D L) :=
 PE.imp (B9 ho B I hm) λ_ _ _ h=>Ss h
def N0(ho:MU X (MW X.K f))(l:EM X ms a B)(D:EM X ns b I)(hs:QlC b):EM X (ms++ns) (.Subscript a b L) (oJ f B I) :=
 PE.imp (NO ho l D hs) λ_ _ _ h=>Ss h
noncomputable def BF:PV->Option Bool
 |.bl b=>Z b
 |_=>O
noncomputable def oQ(m:pI):oN->Option Bool:=λj=>(m j).bind BF
def Qih{K:ab}(B:∀Q,tM K ms m l H Q->t l H Q)(h:GA K ms (oQ m) l H Q):wz t l H Q:=by
 obtain⟨F,j,r,h1,h2,h3,w⟩:=h;delta oQ at h3;cases e1:m j with
 |none=>rw[e1]at h3;cases h3
 |some x =>
  rw[e1]at h3;cases x with
  |bl b =>
   obtain rfl:b=r:=bi h3;refine B _ ⟨F,j,.bl b,h1,h2,e1,λv u D g q=>?_⟩;exact⟨b,q,w u D g⟩
  |_=>cases h3
def Ix(ho:qY X (bO l) f)(B:EM X ms a D)(I:EM X ns b L)(hm:jR l b=U):TM X (ms++ns) (.Compare a [l] [b] M) (oQ (oJ f D L)) :=
 PT.imp (Ca ho B I hm) λ_ _ _ h=>Qih (λ_=>Ss) h
end
noncomputable abbrev qy:Nat:=1000000
def QO:qy<=aV:=by decide
def Qi[Decidable c](h:(if c then Z a else O)=Z r):c/\a=r:=by
 grind
section
noncomputable def uA(C:Int->Int->Bool)(g:Int->Int->PV):PV->PV->Option PV
 |.int i,.int j=>if C i j=Y then Z (g i j) else O
 |_,_=>O
set_option tactic.hygienic true in
def Qlj(h:uA C g p q=Z r):∃i j,p = .int i/\q = .int j/\C i j=Y/\r=g i j:=by
  cases p<;>first
    | (exfalso;cases h;done)
    |skip
  cases q<;>first
    | (exfalso;cases h;done)
    | (rename_i i j
       obtain⟨c,e⟩:=Qi h;exact⟨i,j,rfl,rfl,c,e.symm⟩)
def N1(ho:qH X f (rI B D))(hc:∀i j,C i j=Y->B i j)(L:∀i j K F,o3 K F (g i j) (D i j)):qY X f (uA C g):=by
 intro l s t H x y v u Q I E J h;obtain⟨F,p,q,r,h1,h2,h3,M,w⟩:=h;obtain⟨i,j,rfl,rfl,c,rfl⟩:=Qlj M;exact ho l s t H x y v u Q I E J ⟨i,j,h2,h3,hc i j c,w.here h1 (L i j _ _)⟩
def GB(ho:qH X f (v7 B))(D:∀i j K F,o3 K F (g i j) (B i j)):qY X f (uA (λ_ _=>Y) g):=by
 intro l s t H x y v u Q I E J h;obtain⟨F,p,q,r,h1,h2,h3,L,w⟩:=h;obtain⟨i,j,rfl,rfl,c,rfl⟩:=Qlj L;exact ho l s t H x y v u Q I E J ⟨i,j,h2,h3,w.here h1 (D i j _ _)⟩
def Qp{K:ab} i:o3 K F (.int i) (.int i):=by rfl
def Za{K:ab} i:o3 K F (.bl i) (.bl i):=by rfl
def Iy{K:ab} i:o3 K F (.str i) (.str i):=by rfl
def QkM{K:ab}:o3 K F .non .non:=by rfl
def vt:=uA (λ_ _=>Y) λi j=>.int (i-j)
def cls(p:Prop):Bool := @decide p (e9 p)
def N2(h:cls p=Y):p := @bD p (e9 p) h
def N3(h:p):cls p=Y := @a8 p (e9 p) h
def uB(i j:Int):Bool:=cls (-(2^64)<i/\i<2^64)||cls (-(2^64)<j/\j<2^64)
def U9(_ j:Int):Bool:=cls (0<j/\j<2^200)
def Va(_ j:Int):Bool:=decide (0<j)
def cNn(_ j:Int):Bool:=decide (0<=j)
def Vb(i j:Int):Bool:=cls (0<=j/\j<=1000000/\i.natAbs<2^64)
def rJ:=uA uB λi j=>.int (i*j)
def sP:=uA U9 λi j=>.int (i/j)
def pz:=uA Va λi j=>.int (i%j)
def ql:=uA Vb λi j=>.int (i*2^j.toNat)
def Cv:=uA cNn λi j=>.int (i/2^j.toNat)
def qJ:=uA (λ_ _=>Y) λi j=>.int (jE i j)
def Cw:=uA (λ_ _=>Y) λi j=>.int (gY i j)
def BG:=uA (λ_ _=>Y) λi j=>.bl (decide (i<j))
def GC:=uA (λ_ _=>Y) λi j=>.bl (decide (i<=j))
def t5:=uA (λ_ _=>Y) λi j=>.bl (decide (j<i))
def N4:=uA (λ_ _=>Y) λi j=>.bl (decide (j<=i))
def Iz:qY X (cu .Sub) vt:=GB HR λ_ _ _ _=>Qp _
def Cy(h:uB i j=Y):B7 i j:=by
 delta uB at h;rw[dQ]at h;exact h.imp N2 N2
def IA:qY X (cu .Mult) rJ:=N1 HS (λ_ _ h=>Cy h) λ_ _ _ _=>Qp _
def Cz{j:Int}(l:0<j)(h:j<2^200):j.natAbs.log2<9000:=by
 have h1:j.natAbs<2^200:=by lia
 have h2 :=(md (by lia)).mpr h1;lia
def wZ:qH X (cu .FloorDiv) (rI (λ_ j=>0<j/\j<2^200) λi j=>.int (i/j)):=NC λi j _ _ _ _ _ hc q=>by
 have h1 :=hc.1;exact floordiv_int (by lia) (by rw[ky i (by lia)];exact q) (.inl (PyProof.noPylong_of_log2 (Cz h1 hc.2)))
def IC:qY X (cu .FloorDiv) sP:=N1 wZ (λ_ _ h=>N2 h) λ_ _ _ _=>Qp _
def ID:qY X (cu .Mod) pz:=N1 HU (λ_ _ h=>bD h) λ_ _ _ _=>Qp _
def IE:qY X (cu .LShift) ql:=N1 HV (λi j h=>N2 h) λ_ _ _ _=>Qp _
def IF:qY X (cu .RShift) Cv:=N1 HW (λ_ _ h=>bD h) λ_ _ _ _=>Qp _
def IG:qY X (cu .BitAnd) qJ:=GB HX λ_ _ _ _=>Qp _
def N5:qY X (cu .BitOr) Cw:=GB ND λ_ _ _ _=>Qp _
def IH:qY X (kJ .BitOr) Cw:=GB HY λ_ _ _ _=>Qp _
def N6:qY X (bO .Lt) BG:=GB NF λ_ _ _ _=>Za _
def N7:qY X (bO .LtE) GC:=GB NG λ_ _ _ _=>Za _
def N8:qY X (bO .Gt) t5:=GB NH λ_ _ _ _=>Za _
def N9:qY X (bO .GtE) N4:=GB NI λ_ _ _ _=>Za _
def CA:qH X (cu .Add) (λx y H Q=>∃l b xs B,x = .ref l/\y = .ref b/\qg X.K H l xs/\qg X.K H b B/\xs.length+B.length<=aV/\∀p,H p=O->Q (.ref p) (pf H p (.lst (xs++B)))):=by
 intro L s σ H x y v u Q I T zw h;obtain⟨l,b,xs,B,rfl,rfl,zy,hB,hz,q⟩:=h;cases T;cases zw;obtain⟨j,r,⟨⟨cls,dd,data,sl⟩,n,e,c,_,d⟩,_⟩:=I.list zy;obtain⟨t,M,⟨⟨zx,D,data2,E⟩,n2,e2,c2,_,d2⟩,_⟩:=I.list hB;subst c d c2 d2;have J:j.toArray.size+t.toArray.size<=aV:=by rw[aP,aP,<-r.length,<-M.length];exact hz
 have ea:j.toArray++t.toArray=(j++t).toArray:=by simp
 refine nQ ⟨_,e,rfl⟩ ⟨_,e2,rfl⟩ noFill_list_add seq_list_add PySem.F.slot_list_add PySem.F.entry_list_add (PySem.F.args_list_add_2 _ _)
  (list_addW l b j.toArray t.toArray n n2 dd D sl E J) ⟨e,e2,?_⟩
 rw[ea];exact⟨.ref _,_,I.lnew (r.append M) (by rw[a0];omega),rfl,q _ I.fresh⟩
def tw:PV->PV->Option (List PV)
 |.lst a,.lst b=>if a.length+b.length<=qy then Z (a++b) else O
 |_,_=>O
set_option tactic.hygienic true in
def II{X:Cx}:OpO X (cu .Add) tw:=by
 intro j s D H x y v u Q I E J h;obtain⟨F,p,q,r,h1,h2,h3,l,w⟩:=h;cases p<;>first
  | (exfalso;cases l;done)
  | (cases q<;>first | (exfalso;cases l;done) | skip)
 rename_i xs ys;have l:(if xs.length+ys.length<=qy then Z (xs++ys) else O)=Z r:=l;obtain⟨c,rfl⟩:=Qi l;unfold o3 at h2 h3;obtain⟨a,vs,rfl,sa,B⟩:=h2;obtain⟨b,us,rfl,sb,rb⟩:=h3;refine CA j s D H _ _ v u Q I E J ⟨a,b,vs,us,rfl,rfl,h1.seq sa,h1.seq sb,by rw[B.length,rb.length];exact aY c QO,λp t=>?_⟩;have L:F p=O:=h1.free t;exact w p _ _ F (.side h1 t) t L Qf (B.append rb)
def o7:PV->PV->Option PV
 |.int i,.int j=>Z (.int (i+j))
 |.str a,.str b=>if a.length+b.length<=qy then Z (.str (a++b)) else O
 |_,_=>O
def IJ:qY X (cu .Add) o7:=by
 intro j s t H x y v u Q I B D h;obtain⟨F,p,q,r,h1,h2,h3,l,w⟩:=h;cases p<;>first
  | (exfalso;cases l;done)
  | (cases q<;>first | (exfalso;cases l;done) | skip)
 .cases l;exact HQ j s t H x y v u Q I B D ⟨_,_,h2,h3,w.here h1 (Qp _)⟩
 .obtain⟨c,rfl⟩:=Qi l;exact Qjo j s t H x y v u Q I B D ⟨_,_,h2,h3,aY c QO,w.here h1 (Iy _)⟩
end
mutual
def peq:PV->PV->Bool
 |.non,.non=>Y
 |.bl a,.bl b=>a==b
 |.bl a,.int b=>(if a then 1 else 0)==b
 |.int a,.bl b=>a==(if b then 1 else 0)
 |.int a,.int b=>a==b
 |.str a,.str b=>a==b
 |.tup xs,.tup ys=>pP xs ys
 |.lst xs,.lst ys=>pP xs ys
 |.obj C ks ps,.obj D ls qs=>(C==D&&ks==ls)&&pP ps qs
 |.opq a,.opq b=>a==b
 |_,_=>U
def pP:List PV->List PV->Bool
 |[],[]=>Y
 |x::xs,y::ys=>peq x y&&pP xs ys
 |_,_=>U
end
mutual
def pH:PV->Nat
 |.tup xs=>p7 xs+1
 |.lst xs=>p7 xs+1
 |.obj _ _ _=>1000
 |.opq _=>1000
 |_=>0
def p7:List PV->Nat
 |[]=>0
 |x::xs=>max (pH x) (p7 xs)
end
theorem Oa:∀{xs:List PV}{j:Nat}{p:PV},xs[j]?=Z p->pH p<=p7 xs
 |[],_,_,e=>by simp at e
 |x::xs,0,p,e=>by
  simp at e;subst e;exact Nat.le_max_left _ _
 |x::xs,j+1,p,e=>by
  have:=Oa (by simpa using e);exact aY this (Nat.le_max_right _ _)
mutual
theorem w5:∀p:PV,peq p p=Y
 |.non=>rfl
 |.bl a=>by show(a==a)=Y;simp
 |.int a=>by show(a==a)=Y;simp
 |.str a=>by show(a==a)=Y;simp
 |.tup xs=>Xr xs
 |.lst xs=>Xr xs
 |.obj C ks ps=>by show((C==C&&ks==ks)&&pP ps ps)=Y;rw[Xr ps];simp
 |.opq a=>by show(a==a)=Y;simp
theorem Xr:∀xs:List PV,pP xs xs=Y
 |[]=>by first | rfl | simp[pP]
 |x::xs=>by
  first | rw[show pP (x::xs) (y::ys)=(peq x y&&pP xs ys) from rfl] | rw[show pP (x::xs) (x::xs)=(peq x x&&pP xs xs) from rfl]
  rw[w5 x,Xr xs];rfl
end
def v8(xs ys:List PV)(j:Nat):Bool:=match xs[j]?,ys[j]? with
 |some p,Z q=>peq p q
 |_,_=>Y
def QdN n e:(ai (n+1)).all e=(e 0&&(ai n).all λj=>e (j+1)):=by
 rw[lB,kX,eR];rfl
theorem Su:∀xs ys,((ai (min xs.length ys.length)).all (v8 xs ys)&&(xs.length==ys.length))=pP xs ys
 |[],[]=>by first | rfl | simp[pP]
 |[],y::ys=>by first | rfl | simp[pP]
 |x::xs,[]=>by first | rfl | simp[pP]
 |x::xs,y::ys=>by
  have l:=Su xs ys;first | rw[show pP (x::xs) (y::ys)=(peq x y&&pP xs ys) from rfl] | rw[rfl]
  rw[<-l];have e1:min (x::xs).length (y::ys).length=min xs.length ys.length+1:=by
   simp only[aU];lia
  rw[e1,QdN];have e2:v8 (x::xs) (y::ys) 0=peq x y:=by simp[v8]
  have e3:(λj=>v8 (x::xs) (y::ys) (j+1))=v8 xs ys:=by
   funext j;simp[v8]
  have t:((x::xs).length==(y::ys).length)=(xs.length==ys.length):=by
   simp
  rw[e2,e3,t,Bool.and_assoc]
section
mutual
theorem o3.inj(I:Inv X D L H s)(l:Same F H):∀{p q:PV}{v:V},pH p<1000->pH q<1000->o3 X.K F p v->o3 X.K F q v->p=q
 |.non,q,v,_,j,h,k=>by
  delta o3 at h;subst h;cases q<;>delta o3 at k<;>first | rfl | (cases k;done) | (obtain⟨_,_,k,_⟩:=k;cases k;done) | (obtain⟨_,_,_,k,_⟩:=k;cases k;done)
 |.bl b,q,v,_,j,h,k=>by
  delta o3 at h;subst h;cases q<;>delta o3 at k<;>first | (cases k;done) | (cases k;rfl) | (obtain⟨_,_,k,_⟩:=k;cases k;done) | (obtain⟨_,_,_,k,_⟩:=k;cases k;done)
 |.int b,q,v,_,j,h,k=>by
  delta o3 at h;subst h;cases q<;>delta o3 at k<;>first | (cases k;done) | (cases k;rfl) | (obtain⟨_,_,k,_⟩:=k;cases k;done) | (obtain⟨_,_,_,k,_⟩:=k;cases k;done)
 |.str b,q,v,_,j,h,k=>by
  delta o3 at h;subst h;cases q<;>delta o3 at k<;>first | (cases k;done) | (cases k;rfl) | (obtain⟨_,_,k,_⟩:=k;cases k;done) | (obtain⟨_,_,_,k,_⟩:=k;cases k;done)
 |.tup xs,q,v,dp,j,h,k=>by
  unfold o3 at h;obtain⟨a,vs,rfl,h2,h3⟩:=h;cases q with
  |tup ys =>
   unfold o3 at k;obtain⟨b,us,e,k2,t⟩:=k;cases e;have e:=I.tuple_inj (l.seqT h2) (l.seqT k2);subst e;unfold pH at dp j;rw[oP.inj I l (by omega) (by omega) h3 t]
  |lst ys =>
   delta o3 at k;obtain⟨b,us,e,k2,t⟩:=k;cases e;obtain⟨B,_,p1,_⟩:=I.tuple (l.seqT h2);obtain⟨u,_,p2,_⟩:=I.list (l.seq k2);exact absurd rfl (j5 p2.isList p1)
  |obj C ks ps=>unfold pH at j;omega
  |opq b=>unfold pH at j;omega
  |_=>delta o3 at k;cases k
 |.lst xs,q,v,dp,j,h,k=>by
  unfold o3 at h;obtain⟨a,vs,rfl,h2,h3⟩:=h;cases q with
  |lst ys =>
   unfold o3 at k;obtain⟨b,us,e,k2,t⟩:=k;cases e;have e:=I.list_inj (l.seq h2) (l.seq k2);subst e;unfold pH at dp j;rw[oP.inj I l (by omega) (by omega) h3 t]
  |tup ys =>
   delta o3 at k;obtain⟨b,us,e,k2,t⟩:=k;cases e;obtain⟨B,_,p1,_⟩:=I.list (l.seq h2);obtain⟨u,_,p2,_⟩:=I.tuple (l.seqT k2);exact absurd rfl (j5 p1.isList p2)
  |obj C ks ps=>unfold pH at j;omega
  |opq b=>unfold pH at j;omega
  |_=>delta o3 at k;cases k
 |.obj C ks ps,q,v,dp,j,h,k=>by unfold pH at dp;omega
 |.opq a,q,v,dp,j,h,k=>by unfold pH at dp;omega
theorem oP.inj(I:Inv X l D H s)(B:Same F H):∀{ps qs:List PV}{vs:List V},p7 ps<1000->p7 qs<1000->oP X.K F ps vs->oP X.K F qs vs->ps=qs
 |[],qs,vs,dp,j,h,k=>by
  delta oP at h;subst h;cases qs with
  |nil=>rfl
  |cons q qs=>delta oP at k;obtain⟨_,_,k,_⟩:=k;cases k
 |p::ps,qs,vs,dp,j,h,k=>by
  unfold oP at h;obtain⟨v,r,rfl,h2,h3⟩:=h;cases qs with
  |nil=>unfold oP at k;cases k
  |cons q qs =>
   unfold oP at k;obtain⟨u,E,e,k2,t⟩:=k;cases e;unfold p7 at dp j;rw[o3.inj I B (by omega) (by omega) h2 k2,oP.inj I B (by omega) (by omega) h3 t]
end
def w6{X:Cx}{F:Hp}(I:Inv X bZ σ H s)(L:Same F H):∀(n:Nat)(A:dI)(p q:PV)(v u:V)(x y:Value),pH p<=n->n<=900->pH q<1000->A.units+n<iZ->o3 X.K F p v->o3 X.K F q u->pq v x->pq u y->l6 A s x y (peq p q):=by
 intro n;induction n with
 |zero =>
  intro A p q v u x y hd hn B hu zx hq zy l;cases p with
  |tup xs=>unfold pH at hd;lia
  |lst xs=>unfold pH at hd;lia
  |obj C ks ps=>unfold pH at hd;lia
  |opq b=>unfold pH at hd;lia
  |non =>
   delta o3 at zx;subst zx;cases zy;cases q with
   |obj D ls qs=>unfold pH at B;lia
   |opq b=>unfold pH at B;lia
   |non=>delta o3 at hq;subst hq;cases l;exact lj _
   |bl b=>delta o3 at hq;subst hq;cases l;exact l6.none_bool b
   |int b=>delta o3 at hq;subst hq;obtain⟨t,rfl⟩:=l;exact l6.none_int b t
   |str b=>delta o3 at hq;subst hq;obtain⟨t,rfl⟩:=l;exact l6.none_str b t
   |tup ys =>
    delta o3 at hq;obtain⟨b,us,rfl,k2,M⟩:=hq;cases l;obtain⟨E,_,p1,_⟩:=I.tuple (L.seqT k2);exact l6.none_tuple p1 (by lia)
   |lst ys =>
    delta o3 at hq;obtain⟨b,us,rfl,k2,M⟩:=hq;cases l;obtain⟨E,_,p1,_⟩:=I.list (L.seq k2);exact l6.none_list p1.isList (by lia)
  |bl a =>
   delta o3 at zx;subst zx;cases zy;cases q with
   |obj D ls qs=>unfold pH at B;lia
   |opq b=>unfold pH at B;lia
   |non=>delta o3 at hq;subst hq;cases l;exact l6.bool_none a
   |bl b=>delta o3 at hq;subst hq;cases l;exact l6.bool_bool a b
   |int b=>delta o3 at hq;subst hq;obtain⟨t,rfl⟩:=l;exact l6.bool_int a b t
   |str b=>delta o3 at hq;subst hq;obtain⟨t,rfl⟩:=l;exact l6.bool_str a b t
   |tup ys =>
    delta o3 at hq;obtain⟨b,us,rfl,k2,M⟩:=hq;cases l;obtain⟨E,_,p1,_⟩:=I.tuple (L.seqT k2);exact l6.bool_tuple a p1 (by lia)
   |lst ys =>
    delta o3 at hq;obtain⟨b,us,rfl,k2,M⟩:=hq;cases l;obtain⟨E,_,p1,_⟩:=I.list (L.seq k2);exact l6.bool_list a p1.isList (by lia)
  |int a =>
   delta o3 at zx;subst zx;obtain⟨t',rfl⟩:=zy;cases q with
   |obj D ls qs=>unfold pH at B;lia
   |opq b=>unfold pH at B;lia
   |non=>delta o3 at hq;subst hq;cases l;exact l6.int_none a t'
   |bl b=>delta o3 at hq;subst hq;cases l;exact l6.int_bool a t' b
   |int b=>delta o3 at hq;subst hq;obtain⟨t,rfl⟩:=l;exact l6.int_int a t' b t
   |str b=>delta o3 at hq;subst hq;obtain⟨t,rfl⟩:=l;exact l6.int_str a t' b t
   |tup ys =>
    delta o3 at hq;obtain⟨b,us,rfl,k2,M⟩:=hq;cases l;obtain⟨E,_,p1,_⟩:=I.tuple (L.seqT k2);exact l6.int_tuple a t' p1 (by lia)
   |lst ys =>
    delta o3 at hq;obtain⟨b,us,rfl,k2,M⟩:=hq;cases l;obtain⟨E,_,p1,_⟩:=I.list (L.seq k2);exact l6.int_list a t' p1.isList (by lia)
  |str a =>
   delta o3 at zx;subst zx;obtain⟨t',rfl⟩:=zy;cases q with
   |obj D ls qs=>unfold pH at B;lia
   |opq b=>unfold pH at B;lia
   |non=>delta o3 at hq;subst hq;cases l;exact l6.str_none a t'
   |bl b=>delta o3 at hq;subst hq;cases l;exact l6.str_bool a t' b
   |int b=>delta o3 at hq;subst hq;obtain⟨t,rfl⟩:=l;exact l6.str_int a t' b t
   |str b=>delta o3 at hq;subst hq;obtain⟨t,rfl⟩:=l;exact l6.str_str a t' b t
   |tup ys =>
    unfold o3 at hq;obtain⟨b,us,rfl,k2,M⟩:=hq;cases l;obtain⟨E,_,p1,_⟩:=I.tuple (L.seqT k2);exact l6.str_tuple a t' p1 (by lia)
   |lst ys =>
    unfold o3 at hq;obtain⟨b,us,rfl,k2,M⟩:=hq;cases l;obtain⟨E,_,p1,_⟩:=I.list (L.seq k2);exact l6.str_list a t' p1.isList (by lia)
 |succ n ih =>
  intro A p q v u x y hd hn B hu zx hq zy l;by_cases bJ:pH p<=n
  .exact ih A p q v u x y bJ (by lia) B (by lia) zx hq zy l
  .have T:A.units<iZ:=by lia
   cases p with
   |tup xs =>
    unfold o3 at zx;obtain⟨a,vs,rfl,h2,h3⟩:=zx;cases zy;have av:p7 xs<=n:=by unfold pH at hd;lia
    obtain⟨E,rv,p1,z1⟩:=I.tuple (L.seqT h2);cases q with
    |obj D ls qs=>unfold pH at B;lia
    |opq b=>unfold pH at B;lia
    |non=>unfold o3 at hq;subst hq;cases l;exact l6.tuple_none p1 T
    |bl b=>unfold o3 at hq;subst hq;cases l;exact l6.tuple_bool b p1 T
    |int b=>unfold o3 at hq;subst hq;obtain⟨t,rfl⟩:=l;exact l6.tuple_int b t p1 T
    |str b=>unfold o3 at hq;subst hq;obtain⟨t,rfl⟩:=l;exact l6.tuple_str b t p1 T
    |lst ys =>
     unfold o3 at hq;obtain⟨b,us,rfl,k2,M⟩:=hq;cases l;obtain⟨J,_,p2,_⟩:=I.list (L.seq k2);exact l6.tuple_list p1 p2.isList T
    |tup ys =>
     unfold o3 at hq;obtain⟨b,us,rfl,k2,M⟩:=hq;cases l;obtain⟨J,ru,p2,z2⟩:=I.tuple (L.seqT k2);change l6 _ _ _ _ (pP xs ys);by_cases zw:a=b
     .subst zw;have e:=I.tuple_inj (L.seqT h2) (L.seqT k2);subst e;rw[oP.inj I L (by lia) (by unfold pH at B;lia) h3 M,Xr];exact lj _
     .have l1:E.toArray.size=xs.length:=by rw[aP,<-rv.length,h3.length]
      have l2:J.toArray.size=ys.length:=by rw[aP,<-ru.length,M.length]
      have key:=SeqAt.RcAt.tuples (A:=A) (s:=s) (e:=v8 xs ys) p1 p2 T λj j1 j2=>?_
      .rw[l1,l2,Su]at key;exact j3 zw key
      .have az:j<xs.length:=by rw[<-l1];exact j1
       have aq:j<ys.length:=by rw[<-l2];exact j2
       have e1:xs[j]?=Z xs[j]:=by simp[az]
       have e2:ys[j]?=Z ys[j]:=by simp[aq]
       obtain⟨v1,aj,ak⟩:=h3.get e1;obtain⟨v2,aJ,aZ⟩:=M.get e2;obtain⟨w1,bv,bz⟩:=rv.get aj;obtain⟨w2,bq,bj⟩:=ru.get aJ;have q1:E.toArray[j]=w1:=by simpa using (ax.mp bv).2
       have q2:J.toArray[j]=w2:=by simpa using (ax.mp bq).2
       have e3:v8 xs ys j=peq xs[j] ys[j]:=by unfold v8;rw[e1,e2]
       rw[q1,q2,e3];exact ih A.in1 _ _ v1 v2 w1 w2 (aY (Oa e1) av) (by lia) (by have:=Oa e2;unfold pH at B;lia) (by show A.units+1+n<iZ;lia) ak aZ bz bj
   |lst xs =>
    unfold o3 at zx;obtain⟨a,vs,rfl,h2,h3⟩:=zx;cases zy;have av:p7 xs<=n:=by unfold pH at hd;lia
    obtain⟨E,rv,p1,z1⟩:=I.list (L.seq h2);cases q with
    |obj D ls qs=>unfold pH at B;lia
    |opq b=>unfold pH at B;lia
    |non=>unfold o3 at hq;subst hq;cases l;exact l6.list_none p1.isList T
    |bl b=>unfold o3 at hq;subst hq;cases l;exact l6.list_bool b p1.isList T
    |int b=>unfold o3 at hq;subst hq;obtain⟨t,rfl⟩:=l;exact l6.list_int b t p1.isList T
    |str b=>unfold o3 at hq;subst hq;obtain⟨t,rfl⟩:=l;exact l6.list_str b t p1.isList T
    |tup ys =>
     unfold o3 at hq;obtain⟨b,us,rfl,k2,M⟩:=hq;cases l;obtain⟨J,_,p2,_⟩:=I.tuple (L.seqT k2);exact l6.list_tuple p1.isList p2 T
    |lst ys =>
     unfold o3 at hq;obtain⟨b,us,rfl,k2,M⟩:=hq;cases l;obtain⟨J,ru,p2,z2⟩:=I.list (L.seq k2);change l6 _ _ _ _ (pP xs ys);by_cases zw:a=b
     .subst zw;have e:=I.list_inj (L.seq h2) (L.seq k2);subst e;rw[oP.inj I L (by lia) (by unfold pH at B;lia) h3 M,Xr];exact lj _
     .have l1:E.toArray.size=xs.length:=by rw[aP,<-rv.length,h3.length]
      have l2:J.toArray.size=ys.length:=by rw[aP,<-ru.length,M.length]
      by_cases hl:xs.length=ys.length
      .have key:=SeqAt.RcAt.lists (A:=A) (s:=s) (e:=v8 xs ys) p1.isList p2.isList (by rw[l1,l2,hl]) T λj j1 j2=>?_
       .have e5:=Su xs ys;rw[<-hl,Nat.min_self,bW,Bool.and_true]at e5;rw[l1,e5]at key;exact j3 zw key
       .have az:j<xs.length:=by rw[<-l1];exact j1
        have aq:j<ys.length:=by rw[<-l2];exact j2
        have e1:xs[j]?=Z xs[j]:=by simp[az]
        have e2:ys[j]?=Z ys[j]:=by simp[aq]
        obtain⟨v1,aj,ak⟩:=h3.get e1;obtain⟨v2,aJ,aZ⟩:=M.get e2;obtain⟨w1,bv,bz⟩:=rv.get aj;obtain⟨w2,bq,bj⟩:=ru.get aJ;have q1:E.toArray[j]=w1:=by simpa using (ax.mp bv).2
        have q2:J.toArray[j]=w2:=by simpa using (ax.mp bq).2
        have e3:v8 xs ys j=peq xs[j] ys[j]:=by delta v8;rw[e1,e2]
        rw[q1,q2,e3];exact ih A.in1 _ _ v1 v2 w1 w2 (aY (Oa e1) av) (by lia) (by have:=Oa e2;unfold pH at B;lia) (by show A.units+1+n<iZ;lia) ak aZ bz bj
      .have e5:=Su xs ys;rw[(bc (a:=xs.length) (b:=ys.length)).mpr hl,i6]at e5;rw[<-e5];exact j3 zw (SeqAt.RcAt.lists_lengths p1.isList p2.isList (by rw[l1,l2];simpa using hl) T)
   |obj C ks ps=>unfold pH at hd;lia
   |opq b=>unfold pH at hd;lia
   |_=>unfold pH at bJ;lia
mutual
def rj:PV->PyData
 |.non=>.none
 |.bl b=>.bool b
 |.int i=>.int i
 |.str x=>.str x
 |.tup xs=>.tuple (qZ xs)
 |.lst xs=>.list (qZ xs)
 |.obj _ _ _=>.none
 |.opq _=>.none
def qZ:List PV->List PyData
 |[]=>[]
 |x::xs=>rj x::qZ xs
end
mutual
def vd:PV->Bool
 |.str x=>aA x
 |.tup xs=>rK xs
 |.lst xs=>rK xs
 |_=>Y
def rK:List PV->Bool
 |[]=>Y
 |x::xs=>vd x&&rK xs
end
def p9(p:PV):Bool:=decide (pH p<=50)&&vd p
mutual
theorem Qef:∀p:PV,vd p=Y->(rj p).canLay0=Y
 |.non,_=>by simp[rj,fA]
 |.bl _,_=>by simp[rj,fA]
 |.int _,_=>by simp[rj,fA]
 |.str x,h=>by simpa[rj,fA,vd] using h
 |.tup xs,h=>by
  unfold rj fA;exact Vc xs (by simpa[vd] using h)
 |.lst xs,h=>by
  unfold rj fA;exact Vc xs (by simpa[vd] using h)
 |.obj _ _ _,_=>by simp[rj,fA]
 |.opq _,_=>by simp[rj,fA]
theorem Vc:∀xs:List PV,rK xs=Y->kt (qZ xs)=Y
 |[],_=>by simp[qZ,kt]
 |x::xs,h=>by
  unfold rK at h;rw[aQ]at h;unfold qZ kt;rw[Qef x h.1,Vc xs h.2];rfl
end
mutual
theorem QfQ:∀p:PV,(rj p).depth<=pH p+1
 |.non=>by simp[rj,f6]
 |.bl _=>by simp[rj,f6]
 |.int _=>by simp[rj,f6]
 |.str x=>by simp[rj,f6]
 |.tup xs=>by
  have:=Vd xs;simp only[rj,f6,pH];omega
 |.lst xs=>by
  have:=Vd xs;simp only[rj,f6,pH];omega
 |.obj _ _ _=>by simp[rj,f6]
 |.opq _=>by simp[rj,f6]
theorem Vd:∀xs:List PV,lv (qZ xs)<=p7 xs+1
 |[]=>by simp[qZ,lv]
 |x::xs=>by
  have h1:=QfQ x;have h2:=Vd xs;simp only[qZ,lv,p7];omega
end
def Sv(h:p9 p=Y):SeqAt.shaped (rj p)=Y:=by
 delta p9 at h;rw[aQ,bM]at h;have h1:=QfQ p;delta SeqAt.shaped;rw[Qef p h.2,fU,bM];lia
mutual
theorem Ve:∀p q:PV,pH p<1000->pH q<1000->PyData.eqv (rj p) (rj q)=peq p q
 |.non,q,_,hq=>by cases q<;>first | (rfl;done) | (exfalso;unfold pH at hq;omega)
 |.bl _,q,_,hq=>by cases q<;>first | (rfl;done) | (exfalso;delta pH at hq;omega)
 |.int _,q,_,hq=>by cases q<;>first | (rfl;done) | (exfalso;delta pH at hq;omega)
 |.str _,q,_,hq=>by cases q<;>first | (rfl;done) | (exfalso;delta pH at hq;omega)
 |.tup xs,q,j,hq=>by
  cases q with
  |tup ys=>exact Vf xs ys (by unfold pH at j;omega) (by unfold pH at hq;omega)
  |obj=>exfalso;unfold pH at hq;omega
  |opq=>exfalso;unfold pH at hq;omega
  |_=>rfl
 |.lst xs,q,j,hq=>by
  cases q with
  |lst ys=>exact Vf xs ys (by unfold pH at j;omega) (by unfold pH at hq;omega)
  |obj=>exfalso;unfold pH at hq;omega
  |opq=>exfalso;unfold pH at hq;omega
  |_=>rfl
 |.obj _ _ _,q,j,_=>by exfalso;unfold pH at j;omega
 |.opq _,q,j,_=>by exfalso;unfold pH at j;omega
theorem Vf:∀xs ys:List PV,p7 xs<1000->p7 ys<1000->PyData.eqvAll (qZ xs) (qZ ys)=pP xs ys
 |[],[],_,_=>rfl
 |[],_::_,_,_=>rfl
 |_::_,[],_,_=>rfl
 |x::xs,y::ys,h1,h2=>by
  show(PyData.eqv (rj x) (rj y)&&PyData.eqvAll (qZ xs) (qZ ys))=(peq x y&&pP xs ys);unfold p7 at h1 h2;rw[Ve x y (by omega) (by omega),Vf xs ys (by omega) (by omega)]
end
mutual
theorem o3.reads(I:Inv X L M H s)(l:Same F H):∀{p:PV}{v:V}{u:Value},pH p<1000->o3 X.K F p v->pq v u->∃as,Reads s.heap u (rj p) as
 |.non,v,u,_,h,r=>by delta o3 at h;subst h;cases r;exact⟨_,by delta rj;exact .none⟩
 |.bl b,v,u,_,h,r=>by delta o3 at h;subst h;cases r;exact⟨_,by delta rj;exact .bool b⟩
 |.int b,v,u,_,h,r=>by delta o3 at h;subst h;obtain⟨t,rfl⟩:=r;exact⟨_,by delta rj;exact .int b t⟩
 |.str b,v,u,_,h,r=>by delta o3 at h;subst h;obtain⟨t,rfl⟩:=r;exact⟨_,by delta rj;exact .str b t⟩
 |.tup xs,v,u,j,h,r=>by
  unfold o3 at h;obtain⟨a,vs,rfl,h2,h3⟩:=h;cases r;obtain⟨B,D,⟨o,ho,hc,n,hd⟩,_⟩:=I.tuple (l.seqT h2);obtain⟨as,E⟩:=oP.reads I l (by unfold pH at j;omega) h3 D;unfold rj;exact⟨_,.tuple ho hc hd (by simpa using E)⟩
 |.lst xs,v,u,j,h,r=>by
  unfold o3 at h;obtain⟨a,vs,rfl,h2,h3⟩:=h;cases r;obtain⟨B,D,⟨o,n,ho,hc,_,hd⟩,_⟩:=I.list (l.seq h2);obtain⟨as,E⟩:=oP.reads I l (by unfold pH at j;omega) h3 D;unfold rj;exact⟨_,.list ho hc hd (by simpa using E)⟩
 |.obj _ _ _,v,u,j,_,_=>by exfalso;unfold pH at j;omega
 |.opq _,v,u,j,_,_=>by exfalso;unfold pH at j;omega
theorem oP.reads(I:Inv X l L H s)(B:Same F H):∀{ps:List PV}{vs:List V}{us:List Value},p7 ps<1000->oP X.K F ps vs->o4 vs us->∃as,ReadsAll s.heap us (qZ ps) as
 |[],vs,us,_,h,r=>by
  delta oP at h;subst h;cases r;exact⟨[],by delta qZ;exact .nil⟩
 |p::ps,vs,us,j,h,r=>by
  unfold p7 at j;unfold oP at h;obtain⟨v,t,rfl,h2,h3⟩:=h;cases r with
  |cons u D =>
   obtain⟨M,E⟩:=o3.reads I B (by omega) h2 u;obtain⟨zy,J⟩:=oP.reads I B (by omega) h3 D;unfold qZ;exact⟨_,.cons E J⟩
end
def CB(h:p9 p=Y):pH p<1000:=by
 unfold p9 at h;rw[aQ,bM]at h;omega
def pC(p q:PV):Option PV:=if p9 p=Y/\p9 q=Y then Z (.bl (peq p q)) else O
def sg(p q:PV):Option PV:=if p9 p=Y/\p9 q=Y then Z (.bl (!peq p q)) else O
def Ob(B:X.A.units+64<iZ):qY X (bO .Eq) pC:=by
 intro t s M H x y v u Q I D E h;obtain⟨F,p,q,r,h1,h2,h3,J,w⟩:=h;obtain⟨⟨j,l⟩,rfl⟩:=Qi J;obtain⟨as,L⟩:=o3.reads I h1 (CB j) h2 D;obtain⟨bs,rb⟩:=o3.reads I h1 (CB l) h3 E;refine eq_dataH L rb (Sv j) (Sv l) B ?_;rw[Ve _ _ (CB j) (CB l)];exact⟨.bl _,H,I,rfl,w.here h1 (Za _)⟩
def Oc(B:X.A.units+64<iZ):qY X (bO .NotEq) sg:=by
 intro t s M H x y v u Q I D E h;obtain⟨F,p,q,r,h1,h2,h3,J,w⟩:=h;obtain⟨⟨j,l⟩,rfl⟩:=Qi J;obtain⟨as,L⟩:=o3.reads I h1 (CB j) h2 D;obtain⟨bs,rb⟩:=o3.reads I h1 (CB l) h3 E;refine ne_dataH L rb (Sv j) (Sv l) B ?_;rw[Ve _ _ (CB j) (CB l)];exact⟨.bl _,H,I,rfl,w.here h1 (Za _)⟩
end
section
def CC:∀{l:List Value}{xs:List PV} f,l.length=xs.length->∀g ,(∀(j:Nat) u p,l[j]?=Z u->xs[j]?=Z p->g u=f p)->l.any g=xs.any f
 := by
 intro us;induction us with
 |nil=>intro xs f h;cases xs;intros;rfl;cases h
 |cons u us t =>
  intro xs f h g k;cases xs with
  |nil=>cases h
  |cons p ps=>rw[List.any_cons,List.any_cons,k 0 u p rfl rfl,t f (by simpa using h) g λj u p h1 h2=>k (j+1) u p (by simpa using h1) (by simpa using h2)]
open Classical in
def uw(l:List Value)(xs:List PV)(x:PV)(u:Value):Bool:=if h:∃(j:Nat)(p:PV),l[j]?=Z u/\xs[j]?=Z p then peq (n6 (gC h)) x else U
def qK:PV->PV->Option PV
 |x,.lst xs=>if p9 x=Y/\xs.all p9=Y then Z (.bl (xs.any λy=>peq y x)) else O
 |x,.tup xs=>if p9 x=Y/\xs.all p9=Y then Z (.bl (xs.any λy=>peq y x)) else O
 |_,_=>O
def Zq(x y:PV):Option PV:=(qK x y).bind λr=>match r with
 |.bl b=>Z (.bl (!b))
 |_=>O
def CD(h:p9 p=Y):pH p<=50:=by
 delta p9 at h;rw[aQ,bM]at h;exact h.1
def Sw(I:Inv X zw σ H s)(zy:Same F H)(hu:A.units+60<iZ)(ok:xs.all p9=Y)(L:p9 x=Y)(hx:o3 X.K F x xv)(rx:pq xv xu)(B:oP X.K F xs vs)(D:o4 vs l) :
  (∀u∈l,l6 A s u xu (uw l xs x u))/\l.any (uw l xs x)=xs.any λy=>peq y x:=by
 have len:l.length=xs.length:=by rw[<-D.length,B.length]
 have inj:∀j k u p q,l[j]?=Z u->xs[j]?=Z p->l[k]?=Z u->xs[k]?=Z q->p=q:=λj k u p q h1 h2 h3 h4=>by
  obtain⟨v1,e1,J⟩:=B.get h2;obtain⟨v2,e2,r2⟩:=B.get h4;obtain⟨w1,E,t1⟩:=D.get e1;obtain⟨w2,f2,t2⟩:=D.get e2;rw[h1]at E;rw[h3]at f2;cases E;cases f2;have ev:=t1.inj t2;subst ev;have hd:∀j p,xs[j]?=Z p->pH p<1000:=λj p h=>by
   have z:=aX.mp ok p (bV h);unfold p9 at z;rw[aQ,bM]at z;lia
  exact o3.inj I zy (hd _ _ h2) (hd _ _ h4) J r2
 have val:∀j u p,l[j]?=Z u->xs[j]?=Z p->uw l xs x u=peq p x:=λj u p h1 h2=>by
  have h:∃(j:Nat)(p:PV),l[j]?=Z u/\xs[j]?=Z p:=⟨j,p,h1,h2⟩
  delta uw;rw[dif_pos h];have hs:=gC (gC h);rw[inj _ _ u _ _ hs.1 hs.2 h1 h2]
 refine⟨λu M=>?_,CC (λy=>peq y x) len _ λj u p h1 h2=>val j u p h1 h2⟩;obtain⟨j,zx⟩:=List.mem_iff_getElem?.mp M;have t:j<xs.length:=by rw[<-len];exact(ax.mp zx).1
 have e1:xs[j]?=Z xs[j]:=by simp[t]
 rw[val j u _ zx e1];obtain⟨v1,E,J⟩:=B.get e1;obtain⟨w1,g1,t1⟩:=D.get E;rw[zx]at g1;cases g1;have T :=aX.mp ok _ (bu t);exact w6 I zy 50 A _ _ v1 xv _ _ (CD T) (by lia) (CB L) (by lia) J hx t1 rx
def QkV(h:qK x y=Z r):∃xs,(y = .lst xs\/y = .tup xs)/\p9 x=Y/\xs.all p9=Y/\r = .bl (xs.any λy=>peq y x):=by
 cases y with
 |lst xs =>
  obtain⟨⟨j,l⟩,rfl⟩:=Qi h;exact⟨xs,.inl rfl,j,l,rfl⟩
 |tup xs =>
  obtain⟨⟨j,l⟩,rfl⟩:=Qi h;exact⟨xs,.inr rfl,j,l,rfl⟩
 |_=>cases h
def Od(hu:X.A.units+64<iZ):qY X (bO .In) qK:=by
 intro J s σ H x y v u Q I L M h;obtain⟨F,p,q,r,h1,h2,h3,zw,w⟩:=h;obtain⟨xs,zy,zx,T,rfl⟩:=QkV zw;have l:X.A.in1.units+60<iZ:=by show X.A.units+1+60<iZ;lia
 rcases zy with rfl | rfl
 .obtain⟨a,vs,rfl,k2,B⟩:=h3;cases M;obtain⟨t,D,E,_⟩:=I.list (h1.seq k2);obtain⟨he,j⟩:=Sw I h1 l T zx h2 L B D;refine SeqAt.in_listAt (uw t xs p) E.isList (λy hy=>he y (by simpa using hy)) ⟨.bl _,H,I,rfl,?_⟩;rw[show t.toArray.any (uw t xs p)=t.any (uw t xs p) by simp,j];exact w.here h1 (Za _)
 .obtain⟨a,vs,rfl,k2,B⟩:=h3;cases M;obtain⟨t,D,E,_⟩:=I.tuple (h1.seqT k2);obtain⟨he,j⟩:=Sw I h1 l T zx h2 L B D;refine SeqAt.in_tupleAt (uw t xs p) E (λy hy=>he y (by simpa using hy)) ⟨.bl _,H,I,rfl,?_⟩;rw[show t.toArray.any (uw t xs p)=t.any (uw t xs p) by simp,j];exact w.here h1 (Za _)
def w8(hu:X.A.units+64<iZ):qY X (bO .NotIn) Zq:=by
 intro L s σ H x y v u Q I M zx h;obtain⟨F,p,q,r,h1,h2,h3,l,w⟩:=h;unfold Zq at l;cases e:qK p q with
 |none=>rw[e]at l;cases l
 |some r0 =>
  rw[e]at l;obtain⟨xs,zy,T,zw,rfl⟩:=QkV e;have l:Z (PV.bl (!(xs.any λy=>peq y p)))=Z r:=l;cases l;have B:X.A.in1.units+60<iZ:=by show X.A.units+1+60<iZ;omega
  rcases zy with rfl | rfl
  .unfold o3 at h3;obtain⟨a,vs,rfl,k2,D⟩:=h3;cases zx;obtain⟨t,E,J,_⟩:=I.list (h1.seq k2);obtain⟨he,j⟩:=Sw (A:=X.A.in1) I h1 B zw T h2 M D E;refine SeqAt.notIn_listAt (uw t xs p) J.isList (λy hy=>he y (by simpa using hy)) ⟨.bl _,H,I,rfl,?_⟩;rw[show t.toArray.any (uw t xs p)=t.any (uw t xs p) by simp,j];exact w.here h1 (Za _)
  .unfold o3 at h3;obtain⟨a,vs,rfl,k2,D⟩:=h3;cases zx;obtain⟨t,E,J,_⟩:=I.tuple (h1.seqT k2);obtain⟨he,j⟩:=Sw (A:=X.A.in1) I h1 B zw T h2 M D E;refine SeqAt.notIn_tupleAt (uw t xs p) J (λy hy=>he y (by simpa using hy)) ⟨.bl _,H,I,rfl,?_⟩;rw[show t.toArray.any (uw t xs p)=t.any (uw t xs p) by simp,j];exact w.here h1 (Za _)
def isN:PV->Bool
 |.non=>Y
 |_=>U
def IK:PV->PV->Option PV
 |p,.non=>Z (.bl (isN p))
 |.bl a,.bl b=>Z (.bl (a==b))
 |_,_=>O
def Oe:PV->PV->Option PV
 |p,.non=>Z (.bl (!isN p))
 |.bl a,.bl b=>Z (.bl (a != b))
 |_,_=>O
def IL:qH X (bO .Is) (λx y H Q=>∃a b,x = .bl a/\y = .bl b/\Q (.bl (a==b)) H):=by
 intro j s B H x y v u Q I l t h;obtain⟨a,b,rfl,rfl,q⟩:=h;cases l;cases t;exact is_bool (NE I q rfl)
def CF:qH X (bO .IsNot) (λx y H Q=>∃a b,x = .bl a/\y = .bl b/\Q (.bl (a != b)) H):=by
 intro j s B H x y v u Q I l t h;obtain⟨a,b,rfl,rfl,q⟩:=h;cases l;cases t;exact isnot_bool (NE I q rfl)
def Qli{K:ab}(h:o3 K F p v):decide (v = .non)=isN p:=by
 cases p<;>delta o3 at h<;>first
  | (done)
  | (obtain⟨a,vs,rfl,_⟩:=h;simp[isN];done)
  | (obtain⟨a,j,vs,rfl,_⟩:=h;simp[isN])
def Of:qY X (bO .Is) IK:=by
 intro j s t H x y v u Q I B D h;obtain⟨F,p,q,r,h1,h2,h3,l,w⟩:=h;cases q with
 |non =>
  cases l;exact Ia j s t H x y v u Q I B D ⟨h3,by rw[Qli h2];exact w.here h1 (Za _)⟩
 |bl b =>
  cases p with
  |bl a =>
   cases l;exact IL j s t H x y v u Q I B D ⟨a,b,h2,h3,w.here h1 (Za _)⟩
  |_=>cases l
 |_=>first | (cases l;done) | (cases p<;>cases l)
def w9:qY X (bO .IsNot) Oe:=by
 intro j s t H x y v u Q I B D h;obtain⟨F,p,q,r,h1,h2,h3,l,w⟩:=h;cases q with
 |non =>
  cases l;exact B8 j s t H x y v u Q I B D ⟨h3,by rw[Qli h2];exact w.here h1 (Za _)⟩
 |bl b =>
  cases p with
  |bl a =>
   cases l;exact CF j s t H x y v u Q I B D ⟨a,b,h2,h3,w.here h1 (Za _)⟩
  |_=>cases l
 |_=>first | (cases l;done) | (cases p<;>cases l)
def oU:PV->PV->Option PV
 |.lst xs,.int i=>rX xs i
 |.tup xs,.int i=>rX xs i
 |.str z,.int i=>if z.length<=qy then (rX z.cps.toList i).map λc=>.str ⟨#[c]⟩ else O
 |_,_=>O
def QlA{K:ab}(h:oP K F xs vs)(e:rX xs i=Z r):∃v,rX vs i=Z v/\o3 K F r v:=by
 unfold rX at e |-;rw[h.length];cases q:BE xs.length i with
 |none=>rw[q]at e;cases e
 |some j =>
  rw[q]at e;exact h.get e
set_option tactic.hygienic true in
def Og:MU X (MW X.K oU):=by
 intro l slice t s B H x y v u Q I D E h hs;obtain⟨F,p,q,r,h1,h2,h3,j,w⟩:=h;cases p<;>first
  | (exfalso;cases j;done)
  | (cases q<;>first | (exfalso;cases j;done) | skip)
 .rename_i z i;have j:(if z.length<=qy then (rX z.cps.toList i).map λc=>PV.str ⟨#[c]⟩ else O)=Z r:=j;by_cases c:z.length<=qy
  .rw[aw c]at j;cases e:rX z.cps.toList i with
   |none=>rw[e]at j;cases j
   |some k =>
    rw[e]at j;cases j;exact Ik l slice t s B H x y v u Q I D E ⟨z,i,k,h2,h3,aY c QO,e,w.here h1 (Iy _)⟩ hs
  .rw[aN c]at j;cases j
 .rename_i xs i;obtain⟨a,vs,rfl,k2,J⟩:=h2;obtain⟨L,e1,e2⟩:=QlA J j;exact Ij l slice t s B H _ y v u Q I D E ⟨a,vs,i,L,rfl,h3,h1.seqT k2,e1,w.here h1 e2⟩ hs
 .rename_i xs i;obtain⟨a,vs,rfl,k2,J⟩:=h2;obtain⟨L,e1,e2⟩:=QlA J j;exact Co l slice t s B H _ y v u Q I D E ⟨a,vs,i,L,rfl,h3,h1.seq k2,e1,w.here h1 e2⟩ hs
end
section
def Qc{α l:Type}{x:Option α}{f:α->Option l}{r:l}(h:x.bind f=Z r):∃y,x=Z y/\f y=Z r:=by
 cases x with
 |none=>cases h
 |some y=>exact⟨y,rfl,h⟩
noncomputable def Zi(h:x.map f=Z r):∃y,x=Z y/\f y=r:=by
 simp_all
def OM(X:Cx)(ms:List Nat)(e:Option Expr)(m:oN->Option (Option Int)):Prop :=
 PO X e λt H Q=>∃F j r,Same F H/\qf X.K F t j ms/\m j=Z r/\∀l u,pd F H u l->Q r l
def sj:oN->Option (Option Int):=λ_=>Z O
def CG:PV->Option (Option Int)
 |.int i=>Z (Z i)
 |_=>O
def rA(m:pI):oN->Option (Option Int):=λj=>(m j).bind CG
def CH:OM X [] O sj:=λj s l H Q I t=>Ci j s l H Q I (by
 obtain⟨F,u,r,h1,h2,h3,w⟩:=t;cases h3;exact w H F (.refl h1))
def CI(h:EM X ms e m):OM X ms (Z e) (rA m):=λj s l H Q I t=>Cj h j s l H Q I (by
 obtain⟨F,u,r,h1,h2,h3,w⟩:=t;obtain⟨p,e1,e2⟩:=Qc h3;refine⟨F,u,p,h1,h2,e1,λv B D g q=>?_⟩;cases p with
 |int i =>
  cases e2;exact⟨i,q,w B D g⟩
 |_=>cases e2)
def qL(xs:List α)(lo l:Option Int):List α:=(xs.drop (HT.sIx xs.length 0 lo)).take (HT.sIx xs.length xs.length l-HT.sIx xs.length 0 lo)
def ra:PV->Option Int->Option Int->Option (List PV)
 |.lst xs,lo,j=>Z (qL xs lo j)
 |_,_,_=>O
noncomputable def rL(f:PV->Option Int->Option Int->Option α)(m:pI)(B D:oN->Option (Option Int)):oN->Option α:=λj=>(m j).bind λx=>(B j).bind λl=>(D j).bind λh=>f x l h
def IP{X:Cx}{lo:Option Expr}(he:EM X ms e m)(L:OM X ns lo M)(zx:OM X ls T zw):EO X (ms++(ns++ls)) (.Subscript e (.Slice lo T O p2) zy) (rL ra m M zw):=by
 refine PE.imp (Qir Cp he L zx) λσ H Q J=>?_;obtain⟨F,B,r,h1,h2,h3,w⟩:=J;obtain⟨x,e1,h3⟩:=Qc h3;obtain⟨l,e2,h3⟩:=Qc h3;obtain⟨h,e3,h3⟩:=Qc h3;refine⟨F,B,x,h1,h2.left,e1,λvx H1 F1 t r1=>⟨F1,B,l,t.sub,h2.right.left.mono t.ext,e2,λH2 F2 u=>⟨F2,B,h,u.sub,h2.right.right.mono (t.ext.trans u.ext),e3,λH3 F3 j=>?_⟩⟩⟩;have g:=t.trans (u.trans j);cases x with
 |lst xs =>
  cases h3;obtain⟨a,vs,rfl,k2,E⟩:=r1;have I:=u.ext.trans j.ext;refine⟨a,vs,rfl,j.sub.seq (I.seq k2),λp D=>?_⟩;have nF :=j.sub.free D;refine w p _ _ F3 (g.trans (.side j.sub D)) (g.same.free D) nF Qf ?_;delta wK qL;rw[E.length];exact((E.drop _).take _).mono I
 |_=>cases h3
def WM(X:Cx)(ms:List Nat)(e:Expr)(m:oN->Option Bool):Prop:=PW X e (GA X.K ms m)
def WM.tm(h:WM X ms e t1):TM X ms e t1:=PW.pt h
def _root_.L2.PW.imp(h:PW X e t)(i:∀l H Q,t' l H Q->t l H Q):PW X e t':=λwhole j s l H Q I q=>h whole j s l H Q I (i l H Q q)
def CJ(h:TM X ms a t1):WM X ms (.BoolOp .And [a] l) t1:=pw_and1 h
def IQ(h:TM X ms a t1):WM X ms (.BoolOp .Or [a] l) t1:=pw_or1 h
def sk(t1 l:oN->Option Bool):oN->Option Bool:=λj=>(t1 j).bind λx=>if x=Y then l j else Z U
def rS(t1 l:oN->Option Bool):oN->Option Bool:=λj=>(t1 j).bind λx=>if x=Y then Z Y else l j
def qb(t1:oN->Option Bool):oN->Option Bool:=λj=>(t1 j).map not
def IS{X:Cx}{ms:List Nat}{ns:List Nat}{l:Pos}{t1:oN->Option Bool}{B:oN->Option Bool}{pb:List Expr}(h1:TM X ms a t1)(h2:WM X ns (.BoolOp .And (b::pb) l) B):WM X (ms++ns) (.BoolOp .And (a::b::pb) l) (sk t1 B) :=
 PW.imp (pw_and h1 h2) λM H Q D=>by
  obtain⟨F,u,r,k1,k2,j,w⟩:=D;obtain⟨x,e1,j⟩:=Qc j;refine⟨F,u,x,k1,k2.left,e1,λzy E t=>?_⟩;cases x with
  |true =>
   exact⟨E,u,r,t.sub,k2.right.mono t.ext,j,λI J L=>w I J (t.trans L)⟩
  |false =>
   grind
def Oh{X:Cx}{ms:List Nat}{ns:List Nat}{l:Pos}{t1:oN->Option Bool}{B:oN->Option Bool}{pb:List Expr}(h1:TM X ms a t1)(h2:WM X ns (.BoolOp .Or (b::pb) l) B):WM X (ms++ns) (.BoolOp .Or (a::b::pb) l) (rS t1 B) :=
 PW.imp (pw_or h1 h2) λM H Q D=>by
  obtain⟨F,u,r,k1,k2,j,w⟩:=D;obtain⟨x,e1,j⟩:=Qc j;refine⟨F,u,x,k1,k2.left,e1,λzy E t=>?_⟩;cases x with
  |false =>
   exact⟨E,u,r,t.sub,k2.right.mono t.ext,j,λI J L=>w I J (t.trans L)⟩
  |true =>
   grind
def IT(h:TM X ms a t1):TM X ms (.UnaryOp .Not a l) (qb t1) :=
 PT.imp (HC h) λB H Q t=>by
  obtain⟨F,u,r,k1,k2,j,w⟩:=t;obtain⟨x,e1,j⟩:=Zi j;subst j;exact⟨F,u,x,k1,k2,e1,w⟩
def CK:PV->Option Bool
 |.non=>Z U
 |.bl b=>Z b
 |.int i=>Z (i != 0)
 |.str y=>if y.length<=qy then Z ((y.length:Int) != 0) else O
 |.tup xs=>Z (!xs.isEmpty)
 |.lst xs=>Z (!xs.isEmpty)
 |.obj _ _ _=>O
 |.opq _=>O
def pE(m:pI):oN->Option Bool:=λj=>(m j).bind CK
def Qdo{K:ab}(h:oP K F xs vs):vs.isEmpty=xs.isEmpty:=by
 have:=h.length;cases vs<;>cases xs<;>simp_all
def CL{K:ab}(hs:Same F H)(h:o3 K F p v)(e:CK p=Z k):Ib K v H k:=by
 cases p<;>unfold o3 at h
 .subst h;cases e;rfl
 .subst h;cases e;rfl
 .subst h;cases e;rfl
 .subst h;obtain⟨c,rfl⟩:=Qi e;exact⟨aY c QO,rfl⟩
 .obtain⟨a,vs,rfl,k2,j⟩:=h;cases e;exact .inr (.inl ⟨vs,hs.seqT k2,by rw[Qdo j]⟩)
 .obtain⟨a,vs,rfl,k2,j⟩:=h;cases e;exact .inl ⟨vs,hs.seq k2,by rw[Qdo j]⟩
 .cases e
 .cases e
def xa(h:EM X ms e m)(he:∀whole,isTrue e X.env whole=(do let v <-whole;iO e.pos;holding [v] (truthy v)):=by intro _;rfl):TM X ms e (pE m) :=
 PT.imp (wC h he) λD H Q j=>by
  obtain⟨F,l,r,k1,k2,t,w⟩:=j;obtain⟨p,e1,e2⟩:=Qc t;exact⟨F,l,p,k1,k2,e1,λv u B g q=>⟨r,CL g.sub q e2,w u B g⟩⟩
def rM(l B:pI):pI:=λj=>(l j).bind λx=>(BF x).bind λk=>if k=Y then B j else Z (.bl U)
def Vg(l B:pI):pI:=λj=>(l j).bind λx=>(BF x).bind λk=>if k=Y then Z (.bl Y) else B j
def Vh{K:ab}(h:o3 K F p v)(e:BF p=Z k):v = .bl k:=by
 cases p with
 |bl b=>cases e;exact h
 |_=>cases e
def IV(h:EM X ms a m):EM X ms (.BoolOp B [a] l) m:=HE h
def IW{X:Cx}{ms:List Nat}{ns:List Nat}{B:pI}{D:pI}{l:Pos}{pb:List Expr}(h1:EM X ms a B)(h2:EM X ns (.BoolOp .And (b::pb) l) D):EM X (ms++ns) (.BoolOp .And (a::b::pb) l) (rM B D) :=
 PE.imp (HF h1 h2) λJ H Q E=>by
  obtain⟨F,u,r,k1,k2,j,w⟩:=E;obtain⟨x,e1,j⟩:=Qc j;obtain⟨k,e2,j⟩:=Qc j;refine⟨F,u,x,k1,k2.left,e1,λv L I t q=>⟨k,Vh q e2,?_⟩⟩;cases k with
  |true =>
   exact⟨I,u,r,t.sub,k2.right.mono t.ext,j,w.go t⟩
  |false =>
   cases j;exact(w.go t).here t.sub (Za _)
def Oi{X:Cx}{ms:List Nat}{ns:List Nat}{B:pI}{D:pI}{l:Pos}{pb:List Expr}(h1:EM X ms a B)(h2:EM X ns (.BoolOp .Or (b::pb) l) D):EM X (ms++ns) (.BoolOp .Or (a::b::pb) l) (Vg B D) :=
 PE.imp (Nu h1 h2) λJ H Q E=>by
  obtain⟨F,u,r,k1,k2,j,w⟩:=E;obtain⟨x,e1,j⟩:=Qc j;obtain⟨k,e2,j⟩:=Qc j;refine⟨F,u,x,k1,k2.left,e1,λv L I t q=>⟨k,Vh q e2,?_⟩⟩;cases k with
  |false =>
   exact⟨I,u,r,t.sub,k2.right.mono t.ext,j,w.go t⟩
  |true =>
   cases j;exact(w.go t).here t.sub (Za _)
def t9(t:oN->Option Bool)(l B:pI):pI:=λj=>(t j).bind λk=>if k=Y then l j else B j
def Oj(hc:TM X ls c t1)(B:EM X ms a D)(I:EM X ns b L):EM X (ls++(ms++ns)) (.IfExp c a b M) (t9 t1 D L) :=
 PE.imp (wl hc B I) λJ H Q E=>by
  obtain⟨F,t,r,k1,k2,l,w⟩:=E;obtain⟨k,e1,l⟩:=Qc l;refine⟨F,t,k,k1,k2.left,e1,λzy u j=>?_⟩;cases k with
  |true =>
   exact⟨u,t,r,j.sub,k2.right.left.mono j.ext,l,w.go j⟩
  |false =>
   exact⟨u,t,r,j.sub,k2.right.right.mono j.ext,l,w.go j⟩
def IX(f g:PV->PV->Option PV)(l B D:pI):pI:=λj=>(l j).bind λx=>(B j).bind λy=>(f x y).bind λz=>(BF z).bind λk=>if k=Y then (D j).bind λw=>g y w else Z (.bl U)
def Qfv{K:ab}(h:tM K (ms++(ns++ls)) (IX f g L M zx) T H Q):US (MW K f) (MW K g) (tM K ms L) (tM K ns M) (tM K ls zx) T H Q:=by
 obtain⟨F,l,r,h1,h2,h3,w⟩:=h;obtain⟨x,e1,h3⟩:=Qc h3;obtain⟨y,e2,h3⟩:=Qc h3;obtain⟨z,e3,h3⟩:=Qc h3;obtain⟨k,J,h3⟩:=Qc h3;refine⟨F,l,x,h1,h2.left,e1,λvx H1 zw t zy=>⟨zw,l,y,t.sub,h2.right.left.mono t.ext,e2,λvy H2 F2 B I=>⟨F2,x,y,z,B.sub,zy.mono B.ext,I,e3,λvz H3 F3 D r3=>⟨k,Vh r3 J,?_⟩⟩⟩⟩;have j:=t.trans (B.trans D);cases k with
 |true =>
  obtain⟨u,e5,h3⟩:=Qc h3;exact⟨F3,l,u,D.sub,h2.right.right.mono j.ext,e5,λvw H4 F4 E r4=>⟨F4,y,u,r,E.sub,I.mono (D.ext.trans E.ext),r4,h3,w.go (j.trans E)⟩⟩
 |false =>
  cases h3;exact(w.go j).here j.sub (Za _)
def xb(ho:qY X (bO D) f)(B:qY X (bO l) g)(I:EM X ms a L)(M:EM X ns b zy)(hc:EM X ls c T)(hm:nu [D,l] [b,c]=U:=by with_unfolding_all rfl):EM X (ms++(ns++ls)) (.Compare a [D,l] [b,c] zx) (IX f g L zy T) :=
 PE.imp (wA ho B I M hc hm) λ_ _ _ h=>Qfv h
def xc(ho:qY X (bO D) f)(B:qY X (bO l) g)(I:EM X ms a L)(M:EM X ns b zy)(hc:EM X ls c T)(hm:nu [D,l] [b,c]=U:=by with_unfolding_all rfl):TM X (ms++(ns++ls)) (.Compare a [D,l] [b,c] zx) (oQ (IX f g L zy T)) :=
 PT.imp (wB ho B I M hc hm) λ_ _ _ h=>Qih (λ_=>Qfv) h
def uC(f:PV->Option PV)(m:pI):pI:=λj=>(m j).bind f
def rY:PV->Option PV
 |.int i=>Z (.int (-i))
 |_=>O
def xf:PV->Option PV
 |.int i=>Z (.int (dA i))
 |_=>O
def IZ(h:EM X ms a m):EM X ms (.UnaryOp .USub a B) (uC rY m) :=
 PE.imp (Gv HZ h) λD H Q t=>by
  obtain⟨F,u,r,k1,k2,j,w⟩:=t;obtain⟨x,e1,j⟩:=Qc j;refine⟨F,u,x,k1,k2,e1,λv E I l q=>?_⟩;cases x with
  |int i=>cases j;exact⟨i,q,(w.go l).here l.sub (Qp _)⟩
  |_=>cases j
def I0(h:EM X ms a m):EM X ms (.UnaryOp .Invert a B) (uC xf m) :=
 PE.imp (Gv H0 h) λD H Q t=>by
  obtain⟨F,u,r,k1,k2,j,w⟩:=t;obtain⟨x,e1,j⟩:=Qc j;refine⟨F,u,x,k1,k2,e1,λv E I l q=>?_⟩;cases x with
  |int i=>cases j;exact⟨i,q,(w.go l).here l.sub (Qp _)⟩
  |_=>cases j
noncomputable def oK:oN->Option (List PV):=λ_=>Z []
def Qa(m:pI)(l:oN->Option (List PV)):oN->Option (List PV):=λj=>(m j).bind λx=>(l j).map (x :: ·)
def xg:AM X [] [] oK:=PA.imp Ce λt H Q j=>by
 obtain⟨F,u,r,k1,k2,l,w⟩:=j;cases l;exact w [] H F (.refl k1) .nil
def sh(h:EM X ms e m)(hr:AM X ns l D)(hs:ah (e::l) X.env=(U,eval e X.env)::ah l X.env:=by rfl):AM X (ms++ns) (e::l) (Qa m D) :=
 PA.imp (YD h hr hs) λT H Q E=>by
  obtain⟨F,u,r,k1,k2,j,w⟩:=E;obtain⟨x,e1,j⟩:=Qc j;obtain⟨xs,e2,j⟩:=Zi j;subst j;refine⟨F,u,x,k1,k2.left,e1,λv zx I t J=>⟨I,u,xs,t.sub,k2.right.mono t.ext,e2,λvs L M B zy=>?_⟩⟩;exact w (v::vs) L M (t.trans B) (.cons (J.mono B.ext) zy)
def pD(m:oN->Option (List PV)):oN->Option (List PV):=λj=>(m j).bind λxs=>if xs.length<=qy then Z xs else O
def pV(m:oN->Option (List PV)):pI:=λj=>(m j).bind λxs=>if xs.length<=qy then Z (.tup xs) else O
def Ja(h:AM X ms B D):EM X ms (.Tuple B L I) (pV D) :=
 PE.imp (Ih h) λM H Q E=>by
  obtain⟨F,J,r,k1,k2,j,w⟩:=E;obtain⟨xs,e1,j⟩:=Qc j;obtain⟨c,rfl⟩:=Qi j;refine⟨F,J,xs,k1,k2,e1,λvs zy T l t=>⟨by rw[t.length];exact aY c QO,λp u=>?_⟩⟩;refine w _ _ _ (l.trans (.laid l.sub u)) ?_;exact⟨p,vs,rfl,.of Qf,t.mono (pd.laid l.sub u).ext⟩
def Jb(h:AM X ms B D):EO X ms (.List B I) (pD D) :=
 PE.imp (Ii h) λL H Q ⟨F,E,r,k1,k2,l,w⟩=>by
  obtain⟨xs,e1,l⟩:=Qc l;obtain⟨c,rfl⟩:=Qi l;refine⟨F,E,xs,k1,k2,e1,λvs M J j u=>⟨by rw[u.length];exact aY c QO,λp t=>?_⟩⟩;exact w p vs _ J (j.trans (.side j.sub t)) (j.same.free t) (j.sub.free t) Qf u
def Vi(K:ab)(g:List PV->Option PV):List V->Hp->VK->Prop:=λvs H Q=>∃F ps r,Same F H/\oP K F ps vs/\g ps=Z r/\Wv K F H r Q
def Jc(K:ab)(g:List PV->Option (List PV)):List V->Hp->VK->Prop:=λvs H Q=>∃F ps r,Same F H/\oP K F ps vs/\g ps=Z r/\Wo K F H r Q
def BH(X:Cx)(f:Value)(g:List PV->Option PV):Prop:=Yy X f (Vi X.K g)
def MY(X:Cx)(f:Value)(g:List PV->Option (List PV)):Prop:=Yy X f (Jc X.K g)
def Qb(g:List PV->Option α)(l:oN->Option (List PV)):oN->Option α:=λj=>(l j).bind g
def xh{K:ab}(h:tM K ms (Qb g B) D H Q):Sq (Vi K g) (vc K ms B) D H Q:=by
 obtain⟨F,t,r,k1,k2,j,w⟩:=h;obtain⟨xs,e1,j⟩:=Qc j;exact⟨F,t,xs,k1,k2,e1,λvs I u l E=>⟨u,xs,r,l.sub,E,j,w.go l⟩⟩
def QkH{K:ab}(h:NV K ms (Qb g B) D H Q):Sq (Jc K g) (vc K ms B) D H Q:=by
 obtain⟨F,t,r,k1,k2,j,w⟩:=h;obtain⟨xs,e1,j⟩:=Qc j;exact⟨F,t,xs,k1,k2,e1,λvs I u l E=>⟨u,xs,r,l.sub,E,j,w.go l⟩⟩
def qu{X:Cx}{id:String}(hc:BH X (.builtin id) g)(L:Gl X x)(hm:X.mg x=O)(M:cW x=Z (.builtin id))(zy:AM X ms (e::l) T)(zx:x≠"__name__":=by decide)(B:(x=="__debug__")=U:=by decide)(he:ah (e::l) X.env=(U,eval e X.env)::ah l X.env:=by rfl)(D:(bA I (ah l X.env)).any (·.1)=U:=by rfl):EM X ms (.Call (.Name x p) (e::l) [] I) (Qb g T) :=
 PE.imp (Xe hc L hm M zy zx B he D) λ_ _ _ h=>xh h
def so{X:Cx}{id:String}(hc:MY X (.builtin id) g)(L:Gl X x)(hm:X.mg x=O)(M:cW x=Z (.builtin id))(zy:AM X ms (e::l) T)(zx:x≠"__name__":=by decide)(B:(x=="__debug__")=U:=by decide)(he:ah (e::l) X.env=(U,eval e X.env)::ah l X.env:=by rfl)(D:(bA I (ah l X.env)).any (·.1)=U:=by rfl):EO X ms (.Call (.Name x p) (e::l) [] I) (Qb g T) :=
 PE.imp (Xe hc L hm M zy zx B he D) λ_ _ _ h=>QkH h
def sV(hc:BH X (.type T) g)(L:Gl X x)(hm:X.mg x=O)(M:cW x=Z (.type T))(zx:AM X ms (e::l) zw)(zy:x≠"__name__":=by decide)(B:(x=="__debug__")=U:=by decide)(he:ah (e::l) X.env=(U,eval e X.env)::ah l X.env:=by rfl)(D:(bA I (ah l X.env)).any (·.1)=U:=by rfl):EM X ms (.Call (.Name x p) (e::l) [] I) (Qb g zw) :=
 PE.imp (Zr hc L hm M zx zy B he D) λ_ _ _ h=>xh h
def vu(hc:MY X (.type T) g)(L:Gl X x)(hm:X.mg x=O)(M:cW x=Z (.type T))(zx:AM X ms (e::l) zw)(zy:x≠"__name__":=by decide)(B:(x=="__debug__")=U:=by decide)(he:ah (e::l) X.env=(U,eval e X.env)::ah l X.env:=by rfl)(D:(bA I (ah l X.env)).any (·.1)=U:=by rfl):EO X ms (.Call (.Name x p) (e::l) [] I) (Qb g zw) :=
 PE.imp (Zr hc L hm M zx zy B he D) λ_ _ _ h=>QkH h
def spM(K:ab)(n:Nat)(g:List PV->Option PV):Sp:=λvs H Q _=>vs.length=n/\Vi K g vs H Q
def Ol(K:ab)(n:Nat)(g:List PV->Option (List PV)):Sp:=λvs H Q _=>vs.length=n/\Jc K g vs H Q
def xi{K:ab}(L:∀ps r,g ps=Z r->ps.length=n)(h:tM K ms (Qb g B) D H Q):MS (spM K n g) [] E (vc K ms B) D H Q:=by
 obtain⟨F,u,r,k1,k2,j,w⟩:=h;obtain⟨xs,e1,j⟩:=Qc j;refine⟨F,u,xs,k1,k2,e1,λvs J I l t=>?_⟩
 skip
 rw[bB];exact⟨by rw[t.length];grind,I,xs,r,l.sub,t,j,w.go l⟩
def QlQ{K:ab}(L:∀ps r,g ps=Z r->ps.length=n)(h:NV K ms (Qb g B) D H Q):MS (Ol K n g) [] E (vc K ms B) D H Q:=by
 obtain⟨F,u,r,k1,k2,j,w⟩:=h;obtain⟨xs,e1,j⟩:=Qc j;refine⟨F,u,xs,k1,k2,e1,λvs J I l t=>?_⟩
 skip
 rw[bB];exact⟨by rw[t.length];grind,I,xs,r,l.sub,t,j,w.go l⟩
def CM(F:FnOk X.prog X.w X.K X.mg X.base qh k f fd ps (spM X.K n g))(L:∀ps r,g ps=Z r->ps.length=n)(hr:o8 k X.A)(M:Gl X x)(hm:X.mg x=Z (.ref f))(zx:b7 X.K (.ref f)=Y)(T:ZJ X.K fd ps [])(zw:AM X ms (e::l) zy)(B:(x=="__debug__")=U:=by decide)(he:ah (e::l) X.env=(U,eval e X.env)::ah l X.env:=by rfl)(D:(bA I (ah l X.env)).any (·.1)=U:=by rfl) :
  EM X ms (.Call (.Name x p) (e::l) [] I) (Qb g zy) :=
 PE.imp (UY F hr M hm zx T .nil Gy zw B he D) λ_ _ _ h=>xi L h
def CN(F:FnOk X.prog X.w X.K X.mg X.base qh k f fd ps (Ol X.K n g))(L:∀ps r,g ps=Z r->ps.length=n)(hr:o8 k X.A)(M:Gl X x)(hm:X.mg x=Z (.ref f))(zx:b7 X.K (.ref f)=Y)(T:ZJ X.K fd ps [])(zw:AM X ms (e::l) zy)(B:(x=="__debug__")=U:=by decide)(he:ah (e::l) X.env=(U,eval e X.env)::ah l X.env:=by rfl)(D:(bA I (ah l X.env)).any (·.1)=U:=by rfl) :
  EO X ms (.Call (.Name x p) (e::l) [] I) (Qb g zy) :=
 PE.imp (UY F hr M hm zx T .nil Gy zw B he D) λ_ _ _ h=>QlQ L h
end
inductive tV where
 |nx (γ:oN) | rt (p:PV) | ro (xs:List PV) | bk (γ:oN) | ct (γ:oN)
abbrev pW:=oN->Option tV
def flat:PV->Bool
 |.tup _=>U
 |.lst _=>U
 |.obj _ _ _=>U
 |_=>Y
def o3.flat{K:ab}(f:flat p=Y)(h:o3 K F p v):o3 K l p v:=by
 cases p<;>delta o3 at h |- <;> first | exact h | (cases f;done)
def oP.flat{K:ab}:∀{ps:List PV}{vs:List V},ps.all PM.flat=Y->oP K F ps vs->oP K l ps vs:=by
 intro ps;induction ps with
 |nil =>
  intro _ _ h;unfold oP at h |-;exact h
 |cons p ps j =>
  intro _ f h;rw[kX,aQ]at f;unfold oP at h;obtain⟨v,r,rfl,h2,h3⟩:=h;exact .cons (h2.flat f.1) (j f.2 h3)
structure SR (K:ab) (B F₀ F:Hp) (σ:St) (H:Hp) (γ:oN):Prop where
 sub:Same F H
 base:Same B H
 f0:Same F₀ F
 fb:∀a o,F a=Z o->F₀ a=Z o\/B a=O
 len:σ.length=γ.length
 fz:∀(i:Nat) p,γ[i]?=Z (.fz p)->∃v,σ[i]?=Z (Z v)/\o3 K F p v
 ow:∀(i:Nat) xs,γ[i]?=Z (.ow xs)->∃a vs,σ[i]?=Z (Z (.ref a))/\H a=Z (.lst vs)/\oP K F xs vs/\F a=O/\B a=O
 dj:∀(i j:Nat) xs ys a,i≠j->γ[i]?=Z (.ow xs)->γ[j]?=Z (.ow ys)->σ[i]?=Z (Z (.ref a))->σ[j]?≠Z (Z (.ref a))
noncomputable def frz1(l:oN)(i:Nat):oN:=match l[i]? with
 |some (.ow xs)=>l.set i (.fz (.lst xs))
 |_=>l
def frz(ms:List Nat)(l:oN):oN:=ms.foldl frz1 l
set_option tactic.hygienic true in
def QmH l i j:qr (frz1 l i) j=qr l j:=by
 delta frz1;split
 .rename_i xs h;delta qr;by_cases e:i=j
  .subst e;have t :=(ax.mp h).1;rw[ba t,h];rfl
  .rw[aD e]
 .rfl
def xj:∀ms l j,qr (frz ms l) j=qr l j:=by
 intro ms;induction ms with
 |nil =>
  intro _ _;exact rfl
 |cons i ms t =>
  intro l j;show qr (frz ms (frz1 l i)) j=_;rw[t,QmH]
section
set_option tactic.hygienic true in
def SR.frz1{K:ab}{F:Hp}(S:SR K B D F T H I) i:∃zx,SR K B D zx T H (frz1 I i)/\Same F zx:=by
 delta PM.frz1;split
 .rename_i xs h;obtain⟨a,vs,h1,h2,h3,zw,zy⟩:=S.ow i xs h;have J :=(ax.mp h).1;have E:Same F (pf F a (.lst vs)):=λb u q=>by rw[Qh (Qg q zw)];exact q
  refine⟨pf F a (.lst vs),⟨λb u q=>?_,S.base,S.f0.trans E,λb u q=>?_,by simpa using S.len,λj p e=>?_,λj ys e=>?_,λj k ys t c L e1 e2 e3=>?_⟩,E⟩
  .by_cases z:b=a
   .subst z;rw[Qf]at q;rw[h2];exact q
   .rw[Qh z]at q;exact S.sub b u q
  .by_cases z:b=a
   .subst z;exact .inr zy
   .rw[Qh z]at q;exact S.fb b u q
  .by_cases l:i=j
   .subst l;rw[ba J]at e;cases e;refine⟨.ref a,h1,?_⟩;exact⟨a,vs,rfl,.of Qf,h3.mono E⟩
   .rw[aD l]at e;obtain⟨v,k1,k2⟩:=S.fz j p e;exact⟨v,k1,k2.mono E⟩
  .by_cases l:i=j
   .subst l;rw[ba J]at e;cases e
   .rw[aD l]at e;obtain⟨c,us,k1,k2,k3,k4,k5⟩:=S.ow j ys e;have M:c≠a:=λz=>by
     subst z;exact S.dj i j xs ys c l h e h1 k1
    exact⟨c,us,k1,k2,k3.mono E,by rw[Qh M];exact k4,k5⟩
  .have f:∀(n:Nat) t,(I.set i (.fz (.lst xs)))[n]?=Z (.ow t)->I[n]?=Z (.ow t):=λn t q=>by
    by_cases l:i=n
    .subst l;rw[ba J]at q;cases q
    .rw[aD l]at q;exact q
   exact S.dj j k ys t c L (f j ys e1) (f k t e2) e3
 .exact⟨F,S,Same.refl _⟩
def SR.frz{K:ab}:∀ms {F:Hp} {D:oN},SR K B l F L H D->∃I,SR K B l I L H (frz ms D)/\Same F I:=by
 intro ms;induction ms with
 |nil =>
  intro F _ S;exact⟨F,S,Same.refl _⟩
 |cons i ms j =>
  intro F D S;obtain⟨I,t,e1⟩:=S.frz1 i;obtain⟨u,E,e2⟩:=j t;exact⟨u,E,e1.trans e2⟩
set_option tactic.hygienic true in
def QmK{i j:Nat}(h:∀xs,B[j]?≠Z (.ow xs)):∀xs,(PM.frz1 B i)[j]?≠Z (.ow xs):=λxs=>by
 delta PM.frz1;split
 .rename_i ys e;by_cases l:i=j
  .subst l;exact absurd e (h ys)
  .rw[aD l];exact h xs
 .exact h xs
set_option tactic.hygienic true in
def QmJ:∀xs,(PM.frz1 l i)[i]?≠Z (.ow xs):=λxs=>by
 delta PM.frz1;split
 .rename_i ys e;have j :=(ax.mp e).1;rw[ba j];intro z;cases z
 .rename_i h;exact h xs
def xk:∀ms {l:oN} {j:Nat},(∀xs,l[j]?≠Z (.ow xs))->∀xs,(PM.frz ms l)[j]?≠Z (.ow xs):=by
 intro ms;induction ms with
 |nil =>
  intro _ _ h;exact h
 |cons i ms t =>
  intro l j h;exact t (QmK h)
def CO:∀ms {l:oN} {j:Nat},j∈ms->∀xs,(PM.frz ms l)[j]?≠Z (.ow xs):=by
 intro ms;induction ms with
 |nil =>
  intro _ _ h;cases h
 |cons i ms t =>
  intro l j h;rcases ap.mp h with rfl | h
  .exact xk ms QmJ
  .exact t h
def SR.erep{K:ab}{F:Hp}(S:SR K B D F I H l)(h:∀i∈ms,∀xs,l[i]?≠Z (.ow xs)):qf K F I l ms:=λi j p e=>by
 delta qr at e;cases q:l[i]? with
 |none=>rw[q]at e;cases e
 |some t =>
  cases t with
  |un=>rw[q]at e;cases e
  |fz u =>
   rw[q]at e;cases e;exact S.fz i p q
  |ow xs=>exact absurd q (h i j xs)
def SR.see{K:ab}{F:Hp}(S:SR K B l F I H L)(ms:List Nat):∃D,SR K B l D I H (PM.frz ms L)/\Same F D/\qf K D I L ms:=by
 obtain⟨D,t,e1⟩:=SR.frz ms S;refine⟨D,t,e1,λi u p e=>?_⟩;exact t.erep (ms:=ms) (λj E=>CO ms E) i u p (by rw[xj];exact e)
def SR.same{K:ab}{F:Hp}(S:SR K B l F D H I)(e:Same H L):SR K B l F D L I :=
 ⟨S.sub.trans e,S.base.trans e,S.f0,S.fb,S.len,S.fz,λi xs h=>by
  obtain⟨a,vs,h1,h2,h3⟩:=S.ow i xs h;exact⟨a,vs,h1,e _ _ h2,h3⟩,S.dj⟩
def SR.grow{K:ab}{F:Hp}(S:SR K B l F I H L)(g:pd F H D M):SR K B l D I M L:=by
 refine⟨g.sub,S.base.trans g.same,S.f0.trans g.ext,λa o e=>?_,S.len,λi p h=>?_,λi xs h=>?_,S.dj⟩
 .rcases g.new a o e with z | z
  .exact S.fb a o z
  .exact .inr (S.base.free z)
 .obtain⟨v,h1,h2⟩:=S.fz i p h;exact⟨v,h1,h2.mono g.ext⟩
 .obtain⟨a,vs,h1,h2,h3,j,t⟩:=S.ow i xs h;refine⟨a,vs,h1,g.same _ _ h2,h3.mono g.ext,?_,t⟩;cases q:D a with
  |none=>rfl
  |some o =>
   rcases g.new a o q with z | z
   .rw[j]at z;cases z
   .rw[h2]at z;cases z
def SR.setFz{K:ab}{F:Hp}{L:St}{D:oN}(S:SR K B I F L H D) i (r:o3 K F p v):SR K B I F (L.set i (Z v)) H (D.set i (.fz p)):=by
 have f:∀n t,(D.set i (.fz p))[n]?=Z (.ow t)->i≠n/\D[n]?=Z (.ow t):=λn t q=>by
  by_cases l:i=n
  .subst l;by_cases E:i<D.length
   .rw[ba E]at q;cases q
   .rw[bg (by simpa using E)]at q;cases q
  .rw[aD l]at q;exact⟨l,q⟩
 refine⟨S.sub,S.base,S.f0,S.fb,by simpa using S.len,λj q e=>?_,λj ys e=>?_,λj k ys t c J e1 e2 e3=>?_⟩
 .by_cases l:i=j
  .subst l;by_cases E:i<D.length
   .rw[ba E]at e;cases e;exact⟨v,by rw[ba (by rw[S.len];exact E)],r⟩
   .rw[bg (by simpa using E)]at e;cases e
  .rw[aD l]at e;obtain⟨u,h1,h2⟩:=S.fz j q e;exact⟨u,by rw[aD l];exact h1,h2⟩
 .obtain⟨ne,e⟩:=f j ys e;obtain⟨a,vs,h1,h2⟩:=S.ow j ys e;exact⟨a,vs,by rw[aD ne];exact h1,h2⟩
 .obtain⟨M,e1⟩:=f j ys e1;obtain⟨zy,e2⟩:=f k t e2;rw[aD M]at e3;rw[aD zy];exact S.dj j k ys t c J e1 e2 e3
def SR.setOw{K:ab}{F:Hp}{M:St}{D:oN}(S:SR K B L F M H D) i {xs:List PV} {a:Addr} {vs:List V} (zw:H a=Z (.lst vs)) (r:oP K F xs vs) (zy:F a=O) (nB:B a=O)
  (nd:∀j ys,i≠j->D[j]?=Z (.ow ys)->M[j]?≠Z (Z (.ref a))):SR K B L F (M.set i (Z (.ref a))) H (D.set i (.ow xs)):=by
 refine⟨S.sub,S.base,S.f0,S.fb,by simpa using S.len,λj q e=>?_,λj ys e=>?_,λj k ys zx c t e1 e2 e3 I=>?_⟩
 .by_cases E:i=j
  .subst E;by_cases l:i<D.length
   .rw[ba l]at e;cases e
   .rw[bg (by simpa using l)]at e;cases e
  .rw[aD E]at e;obtain⟨u,h1,h2⟩:=S.fz j q e;exact⟨u,by rw[aD E];exact h1,h2⟩
 .by_cases E:i=j
  .subst E;by_cases l:i<D.length
   .rw[ba l]at e;cases e;exact⟨a,vs,by rw[ba (by rw[S.len];exact l)],zw,r,zy,nB⟩
   .rw[bg (by simpa using l)]at e;cases e
  .rw[aD E]at e;obtain⟨b,us,h1,h2⟩:=S.ow j ys e;exact⟨b,us,by rw[aD E];exact h1,h2⟩
 .by_cases J:i=j
  .subst J;by_cases l:i<D.length
   .rw[ba (by rw[S.len];exact l)]at e3;cases e3;rw[aD t]at e2 I;exact nd k zx t e2 I
   .rw[bg (by simpa using l)]at e1;cases e1
  .rw[aD J]at e1 e3;by_cases T:i=k
   .subst T;by_cases l:i<D.length
    .rw[ba (by rw[S.len];exact l)]at I;cases I;exact nd j ys J e1 e3
    .rw[bg (by simpa using l)]at e2;cases e2
   .rw[aD T]at e2 I;exact S.dj j k ys zx c t e1 e2 e3 I
def SR.write{K:ab}{F:Hp}{D:oN}(S:SR K B I F zx H D)(L:D[i]?=Z (.ow xs))(M:zx[i]?=Z (Z (.ref a)))(r:oP K F ys us) :
  SR K B I F zx (pf H a (.lst us)) (D.set i (.ow ys)):=by
 obtain⟨a',vs,h1,h2,h3,T,zw⟩:=S.ow i xs L;rw[M]at h1;cases h1;have t :=(ax.mp L).1;have stay:∀b o,H b=Z o->b≠a->pf H a (.lst us) b=Z o:=λb o e n=>by rw[Qh n];exact e
 refine⟨λb o e=>stay b o (S.sub b o e) (Qg e T),λb o e=>stay b o (S.base b o e) (Qg e zw),S.f0,S.fb,by simpa using S.len,λj q e=>?_,λj E e=>?_,λj k ws E c J e1 e2 e3 zy=>?_⟩
 .by_cases l:i=j
  .subst l;rw[ba t]at e;cases e
  .rw[aD l]at e;exact S.fz j q e
 .by_cases l:i=j
  .subst l;rw[ba t]at e;cases e;exact⟨a,us,M,Qf,r,T,zw⟩
  .rw[aD l]at e;obtain⟨b,ts,k1,k2,k3⟩:=S.ow j E e;have hb:b≠a:=λz=>by
    subst z;exact S.dj i j xs E b l L e M k1
   exact⟨b,ts,k1,stay _ _ k2 hb,k3⟩
 .have f:∀(n:Nat) ws,(D.set i (.ow ys))[n]?=Z (.ow ws)->∃u,D[n]?=Z (.ow u):=λn ws q=>by
   by_cases l:i=n
   .subst l;exact⟨xs,L⟩
   .rw[aD l]at q;exact⟨ws,q⟩
  obtain⟨u,e1⟩:=f j ws e1;obtain⟨av,e2⟩:=f k E e2;exact S.dj j k _ _ c J e1 e2 e3 zy
def SR.up{K:ab}{F:Hp}(S:SR K B l F I H L)(e1:Same l D)(e:Same D F):SR K B D F I H L :=
 ⟨S.sub,S.base,e,λa o q=>(S.fb a o q).imp (λz=>e1 a o z) id,S.len,S.fz,S.ow,S.dj⟩
def SR.down{K:ab}{F:Hp}(S:SR K B I F L H M)(e1:Same l I)(D:∀a o,I a=Z o->l a=Z o\/B a=O):SR K B l F L H M :=
 ⟨S.sub,S.base,e1.trans S.f0,λa o q=>(S.fb a o q).elim (λz=>D a o z) .inr,S.len,S.fz,S.ow,S.dj⟩
def pd.down(g:pd I B L M)(e1:Same l I)(D:∀a o,I a=Z o->l a=Z o\/B a=O):pd l B L M :=
 ⟨e1.trans g.ext,g.sub,g.same,λa o q=>(g.new a o q).elim (λz=>D a o z) .inr⟩
def SR.gr{K:ab}{F:Hp}(S:SR K B l F D H I):pd l B F H:=⟨S.f0,S.sub,S.base,S.fb⟩
end
def GD(K:ab)(B l:Hp)(D:wk):tV->Prop
 |.nx t=>∀j H F,SR K B l F j H t->D.nx j H
 |.rt p=>∀v H F,pd l B F H->o3 K F p v->D.rt v H
 |.ro xs=>∀a vs H F,pd l B F H->B a=O->F a=O->H a=Z (.lst vs)->oP K F xs vs->D.rt (.ref a) H
 |.bk t=>∀j H F,SR K B l F j H t->D.bk j H
 |.ct t=>∀j H F,SR K B l F j H t->D.ct j H
inductive Om (K:ab) (m:pW) (D:wk) (σ:St) (H:Hp):Prop
 |mk B F₀ F γ o:SR K B F₀ F σ H γ->m γ=Z o->GD K B F₀ D o->Om K m D σ H
def SM(X:Cx)(st:Stmt)(m:pW):Prop:=PS X st (Om X.K m)
def ua(X:Cx)(sts:List Stmt)(m:pW):Prop:=PSs X sts (Om X.K m)
section
def _root_.L2.PSs.imp(h:PSs X sts t)(i:∀D l H,t' D l H->t D l H):PSs X sts t':=λj s l H D I q=>h j s l H D I (i D l H q)
noncomputable def pr:pW:=λj=>Z (.nx j)
noncomputable def oM(s1 s2:pW):pW:=λl=>(s1 l).bind λo=>match o with
 |.nx j=>s2 j
 |o=>Z o
def Jd:ua X [] pr:=PSs.imp B2 λD l H t=>by
 obtain⟨B,j,F,u,o,S,e,ok⟩:=t;cases e;exact ok l H F S
def Je{X:Cx}{st:Stmt}(h:SM X st s1):ua X [st] s1:=Z1 h
variable{X:Cx}{st:Stmt}{sts:List Stmt}{s1:pW}{s2:pW} in theorem ss_cons (h:SM X st s1) (hr:ua X sts s2):ua X (st::sts) (oM s1 s2):=PSs.imp (pss_cons h hr) λD σ H zz=>by
 obtain⟨B,F₀,F,γ,o,S,e,ok⟩:=zz;obtain⟨o1,e1,e2⟩:=Qc e;refine⟨B,F₀,F,γ,o1,S,e1,?_⟩;cases o1 with
 |nx γ'=>exact λσ' H' F' S'=>⟨B,F₀,F',γ',o,S',e2,ok⟩
 |_=>cases e2;exact ok
def sBk:pW:=λj=>Z (.bk j)
def sCt:pW:=λj=>Z (.ct j)
def v9:pW:=λ_=>O
def Oo{X:Cx}{st:Stmt}:SM X st v9:=PS.imp wm λD t H l=>by obtain⟨B,j,F,u,o,S,e,ok⟩:=l;cases e
def oR(m:pI):pW:=λj=>(m j).map .rt
def YG(m:oN->Option (List PV)):pW:=λj=>(m j).map .ro
def YF(i:Nat):pW:=λj=>match j[i]? with
 |some (.ow xs)=>Z (.ro xs)
 |some (.fz p)=>Z (.rt p)
 |_=>O
def xl{X:Cx}(h:EM X ms e m):SM X (.Return (Z e) I) (oR m):=PS.imp (UL h) λD zy H t=>by
 obtain⟨B,j,F,u,o,S,e,ok⟩:=t;obtain⟨r,e1,e2⟩:=Zi e;subst e2;obtain⟨E,l,T,J⟩:=S.see ms;exact⟨E,u,r,l.sub,J,e1,λv L M g q=>ok v L M (l.grow g).gr q⟩
def ve{X:Cx}{m:oN->Option (List PV)}(h:EO X ms e m):SM X (.Return (Z e) I) (YG m):=PS.imp (UL h) λD zw H t=>by
 obtain⟨B,l,F,u,o,S,e,ok⟩:=t;obtain⟨r,e1,e2⟩:=Zi e;subst e2;obtain⟨E,j,zy,J⟩:=S.see ms;exact⟨E,u,r,j.sub,J,e1,λa vs L M g n zx T q=>ok a vs L M (j.grow g).gr (j.base.free n) zx T q⟩
set_option tactic.hygienic true in
def vf i (h:PE X (.Name x p2) (qN i)):SM X (.Return (Z (.Name x p2)) l) (YF i):=PS.imp (UL h) λD I H t=>by
 obtain⟨B,j,F,J,o,S,e,ok⟩:=t;delta YF at e;split at e
 .rename_i xs h;cases e;obtain⟨a,vs,h1,h2,h3,u,E⟩:=S.ow i xs h;exact⟨.ref a,h1,ok a vs H F S.gr E u h2 h3⟩
 .rename_i p h;cases e;obtain⟨v,h1,h2⟩:=S.fz i p h;exact⟨v,h1,ok v H F S.gr h2⟩
 .cases e
def ph(t:oN->Option Bool)(s1 s2:pW):pW:=λj=>(t j).bind λk=>if k=Y then s1 j else s2 j
def GF{X:Cx}(hc:TM X ms c t)(I:ua X xs s1)(L:ua X ys s2):SM X (.If c xs ys M) (ph t s1 s2):=PS.imp (Nw hc I L) λD T H u=>by
 obtain⟨B,j,F,l,o,S,e,ok⟩:=u;obtain⟨k,e1,e2⟩:=Qc e;obtain⟨E,J,zw,zx⟩:=S.see ms;refine⟨E,l,k,J.sub,zx,e1,λzy F' g=>?_⟩;cases k with
 |_=>exact⟨B,j,F,l,o,S.same g.same,e2,ok⟩
def QZ(k:Bool)(ms:List Nat)(l:oN):oN:=if k=Y then l else frz ms l
def oW(ms:List Nat)(i:Nat)(m:pI):pW:=λj=>(m j).map λr=>.nx ((QZ (flat r) ms j).set i (.fz r))
def Qs(ms:List Nat)(i:Nat)(m:oN->Option (List PV)):pW:=λj=>(m j).map λxs=>.nx ((QZ (xs.all flat) ms j).set i (.ow xs))
def SR.val{K:ab}{B l F M D H zy:Hp}{I:St}{L:oN}{r:PV}{v:V}(S:SR K B l F I H L)(zx:SR K B l M I H (PM.frz ms L))(g:pd M H D zy)(q:o3 K D r v) :
  ∃T,SR K B l T I zy (QZ (flat r) ms L)/\o3 K T r v:=by
 delta QZ;cases f:flat r with
 |true=>rw[aw rfl];exact⟨F,S.same g.same,q.flat f⟩
 |false=>rw[aN f8];exact⟨D,zx.grow g,q⟩
def SR.valO{K:ab}(S:SR K B l F L H M)(T:Same F zx)(zw:SR K B l zx L H (PM.frz ms M))(g:pd zx H D zy)(q:oP K D r vs) :
  ∃I,SR K B l I L zy (QZ (r.all flat) ms M)/\oP K I r vs/\Same I D:=by
 cases f:r.all flat with
 |true=>exact⟨F,S.same g.same,q.flat f,T.trans g.ext⟩
 |false=>exact⟨D,zw.grow g,q,Same.refl _⟩
def Jf{X:Cx}{l:Pos}(I:X.N.Nodup)(L:X.N[i]?=Z x)(M:BC X.env.scope x)(h:EM X ms e m)(hs:c7 e (Z (.Name x p2)) l.line X.env=pure U:=by rfl)(hf:X.fn x=Y\/X.env.scope.names.lookup x=Z .local:=by first | exact .inl rfl | exact .inr rfl | assumption) :
  SM X (.Assign [.Name x p2] e l) (oW ms i m):=PS.imp (wq I L M h hs hf) λD σ H u=>by
 obtain⟨B,j,F,E,o,S,e,ok⟩:=u;obtain⟨r,e1,e2⟩:=Zi e;subst e2;obtain⟨J,t,x1,zx⟩:=S.see ms;refine⟨J,E,r,t.sub,zx,e1,λv H' F' g q=>?_⟩;obtain⟨T,zw,zy⟩:=S.val t g q;exact ok _ _ T (zw.setFz i zy)
def SR.setNew{K:ab}{a:Addr}(S:SR K B l F I H D)(x1:Same F M)(zx:SR K B l M I H (PM.frz ms D))(g:pd M H zw zy)(n:H a=O)(nF:zw a=O)(hH:zy a=Z (.lst vs))(q:oP K zw r vs) i :
  ∃L,SR K B l L (I.set i (Z (.ref a))) zy ((QZ (r.all flat) ms D).set i (.ow r)):=by
 obtain⟨L,t,u,E⟩:=S.valO x1 zx g q;have own:∀(j:Nat) ys,(QZ (r.all flat) ms D)[j]?=Z (.ow ys)->I[j]?≠Z (Z (.ref a)):=λj ys e1 e2=>by
  have key:∀{F:Hp}{D:oN},SR K B l F I H D->D[j]?=Z (.ow ys)->False:=λ{F D} T e1=>by
   obtain⟨b,us,h1,h2,_⟩:=T.ow j ys e1;rw[e2]at h1;cases h1;rw[n]at h2;cases h2
  delta QZ at e1;split at e1
  .exact key S e1
  .exact key zx e1
 exact⟨L,t.setOw i hH u (E.free nF) (S.base.free n) λj ys _ e1=>own j ys e1⟩
def CP{X:Cx}{l:Pos}{m:oN->Option (List PV)}(I:X.N.Nodup)(L:X.N[i]?=Z x)(M:BC X.env.scope x)(h:EO X ms e m)(hs:c7 e (Z (.Name x p2)) l.line X.env=pure U:=by rfl)(hf:X.fn x=Y\/X.env.scope.names.lookup x=Z .local:=by first | exact .inl rfl | exact .inr rfl | assumption) :
  SM X (.Assign [.Name x p2] e l) (Qs ms i m):=PS.imp (wq I L M h hs hf) λD σ H u=>by
 obtain⟨B,j,F,E,o,S,e,ok⟩:=u;obtain⟨r,e1,e2⟩:=Zi e;subst e2;obtain⟨J,t,zx,T⟩:=S.see ms;refine⟨J,E,r,t.sub,T,e1,λa vs H' F' g n zw zy q=>?_⟩;obtain⟨F2,S2⟩:=S.setNew zx t g n zw zy q i;exact ok _ _ F2 S2
end
def _root_.L2.PG.imp(h:PG X e t)(i:∀v l H Q,t' v l H Q->t v l H Q):PG X e t':=λj s l H v u Q I r q=>h j s l H v u Q I r (i v l H Q q)
def QmI:∀ms {l:oN} {j:Nat},j∉ms->(frz ms l)[j]?=l[j]?:=by
 intro ms;induction ms with
 |nil =>
  intro _ _ _;exact rfl
 |cons i ms t =>
  intro l j h;show(frz ms (frz1 l i))[j]?=_;rw[t (λz=>h (ay _ z))];delta frz1;split
  .rw[aD (λz=>h (by simp[z]))]
  .rfl
def Sx(h:l[i]?=Z (.ow xs))(c:(k || !ms.contains i)=Y):(QZ k ms l)[i]?=Z (.ow xs):=by
 delta QZ;cases k with
 |true=>exact h
 |false =>
  rw[aN f8];have :=by simpa using c
  rw[QmI ms this];exact h
section
def vv(i:Nat)(f:PV->PV->Option PV)(m:pI):pW:=λj=>(qr j i).bind λx=>(m j).bind λy=>(f x y).bind λr=>if flat r=Y then Z (.nx (j.set i (.fz r))) else O
def xm{X:Cx}(I:X.N.Nodup)(L:X.N[i]?=Z x)(M:BC X.env.scope x)(h:EM X ms e m)(ho:qY X (kJ zx) f)(hf:X.fn x=Y\/X.env.scope.names.lookup x=Z .local:=by first | exact .inl rfl | exact .inr rfl | assumption):SM X (.AugAssign (.Name x p2) zx e T) (vv i f m) :=
 PS.imp (HL I L M h ho hf) λD σ H u=>by
  obtain⟨B,l,F,E,o,S,e,ok⟩:=u;obtain⟨x,e1,e⟩:=Qc e;obtain⟨y,e2,e⟩:=Qc e;obtain⟨r,e3,e⟩:=Qc e;obtain⟨fl,rfl⟩:=Qi e;obtain⟨J,zw,x1,t⟩:=S.see (i::ms);obtain⟨zy,h1,h2⟩:=t i (by simp) x e1;refine⟨zy,h1,J,E,y,zw.sub,λj hj=>t j (ay _ hj),e2,λyv H' F' g q=>⟨F',x,y,r,g.sub,h2.mono g.ext,q,e3,λzv H2 F2 g2 q2=>?_⟩⟩;exact ok _ _ F ((S.same (g.same.trans g2.same)).setFz i (q2.flat fl))
def Op(K:ab)(I:List Nat)(g:PV->oN->Option oN):TG:=λv u H Q=>∃B l F D p t,SR K B l F u H D/\o3 K F p v/\g p D=Z t /\
 ∀j,SR K B l F j H t->j.length=u.length->(∀n,n∉I->j[n]?=u[n]?)->Q j H
def GM(X:Cx)(l:List Nat)(B:Expr)(g:PV->oN->Option oN):Prop:=PG X B (Op X.K l g)
noncomputable def oY(i:Nat):PV->oN->Option oN:=λp j=>Z (j.set i (.fz p))
def ZQ(i j:Nat):PV->oN->Option oN:=λp l=>match p with
 |.tup [x,y]=>Z ((l.set i (.fz x)).set j (.fz y))
 |_=>O
def Sy(i j k:Nat):PV->oN->Option oN:=λp l=>match p with
 |.tup [x,y,z]=>Z (((l.set i (.fz x)).set j (.fz y)).set k (.fz z))
 |_=>O
def CQ(h:PG X (.Name x l) (Gu i)):GM X [i] (.Name x l) (oY i):=PG.imp h λv E H Q t=>by
 obtain⟨B,j,F,I,p,u,S,r,e,w⟩:=t;cases e;refine w _ (S.setFz i r) (by simp) λn D=>?_;rw[aD (λz=>D (by simp[z]))]
def CS(h:PG X (.Tuple [x,y] I D) (HI X.K 2 (MP (Gu i) (MP (Gu j) HH)))):GM X [i,j] (.Tuple [x,y] I D) (ZQ i j) :=
 PG.imp h λv zw H Q E=>by
  obtain⟨B,t,F,zy,p,J,S,r,e,w⟩:=E;delta ZQ at e;split at e
  .cases e;obtain⟨a,vs,rfl,k2,l⟩:=r;obtain⟨L,r1,rfl,M,l⟩:=l;obtain⟨zx,r2,rfl,T,l⟩:=l;subst l;refine⟨a,_,rfl,S.sub.seqT k2,rfl,L,_,rfl,zx,_,rfl,rfl,?_⟩;refine w _ ((S.setFz i M).setFz j T) (by simp) λn u=>?_;rw[aD (λz=>u (by simp[z])),aD (λz=>u (by simp[z]))]
  .cases e
set_option tactic.hygienic true in
def CT{i j k:Nat}{x y z:Expr}{I:Nat}(h:PG X (.Tuple [x,y,z] I D) (HI X.K 3 (MP (Gu i) (MP (Gu j) (MP (Gu k) HH))))):GM X [i,j,k] (.Tuple [x,y,z] I D) (Sy i j k) :=
 PG.imp h λv σ H Q E=>by
  obtain⟨B,u,F,γ,p,J,S,r,e,w⟩:=E;unfold Sy at e;split at e
  .rename_i x y z;cases e;unfold o3 at r;obtain⟨a,vs,rfl,k2,l⟩:=r;unfold oP at l;obtain⟨L,r1,rfl,M,l⟩:=l;unfold oP at l;obtain⟨zx,r2,rfl,T,l⟩:=l;unfold oP at l;obtain⟨zw,r3,rfl,zy,l⟩:=l;unfold oP at l;subst l;refine⟨a,_,rfl,S.sub.seqT k2,rfl,L,_,rfl,zx,_,rfl,zw,_,rfl,rfl,?_⟩;refine w _ (((S.setFz i M).setFz j T).setFz k zy) (by simp) λn t=>?_;rw[aD (λz=>t (by simp[z])),aD (λz=>t (by simp[z])),aD (λz=>t (by simp[z]))]
  .cases e
def xn(ms:List Nat)(g:PV->oN->Option oN)(m:pI):pW:=λj=>(m j).bind λr=>(g r (QZ (flat r) ms j)).map .nx
def Jg{l:Expr}{L:List Nat}{g:PV->oN->Option oN}(h:EM X ms e m)(M:GM X L l g)(hs:mO [l] e I.line X.env=pure U:=by rfl)(hw:mP [l] e X.env=pure O:=by rfl)(h1:(gQ [l] X.env).map (·.2)=[assign l X.env]:=by rfl):SM X (.Assign [l] e I) (xn ms g m):=PS.imp (HK h M hs hw h1) λD σ H J=>by
 obtain⟨B,j,F,zx,o,S,e,ok⟩:=J;obtain⟨r,e1,e2⟩:=Qc e;obtain⟨t,T,e3⟩:=Zi e2;subst e3;obtain⟨zw,u,x1,zy⟩:=S.see ms;refine⟨zw,zx,r,u.sub,zy,e1,λv H' F' g q=>?_⟩;obtain⟨E,S2,q2⟩:=S.val u g q;exact⟨B,j,E,_,r,t,S2,q2,T,λav S' _ _=>ok _ _ E S'⟩
def qo(ms:List Nat)(i:Nat)(m:pI):pW:=λj=>match j[i]? with
 |some (.ow xs)=>(m j).bind λr=>if xs.length<qy/\(flat r || !ms.contains i)=Y then Z (.nx ((QZ (flat r) ms j).set i (.ow (xs++[r])))) else O
 |_=>O
def Sz{K:ab}{a:Addr}(h:qg K H a vs):NP K "list" (.ref a) H := .inl ⟨rfl,vs,h⟩
def Jh(hx:PE X (.Name x p2) (qN i))(h:EM X ms e m)(ps:PS X (.Expr (.Call (.Attribute (.Name x p2) "append" l) [e] [] I) L) (MN (MV X.K "list" QkP (qN i) (vc X.K ms (Qa m oK))))) :
  SM X (.Expr (.Call (.Attribute (.Name x p2) "append" l) [e] [] I) L) (qo ms i m):=PS.imp ps λD σ H zw=>by
 obtain⟨B,E,F,zy,o,S,e,ok⟩:=zw;delta qo at e;split at e
 .rename_i xs J;obtain⟨r,e1,e⟩:=Qc e;obtain⟨⟨hl,c⟩,rfl⟩:=Qi e;obtain⟨a,vs,h1,h2,_⟩:=S.ow i xs J;obtain⟨F1,M,x1,er⟩:=S.see ms;refine⟨.ref a,h1,Sz (.of h2),F1,zy,[r],M.sub,er,by simp[Qa,oK,e1],λus H' F' g q=>?_⟩;obtain⟨v,t,rfl,q,qt⟩:=q;subst qt;obtain⟨F2,zx,q2⟩:=S.val M g q;have j:=Sx J c;obtain⟨a2,u,k1,k2,T,_⟩:=zx.ow i xs j;rw[h1]at k1;cases k1;refine⟨a,u,v,rfl,rfl,k2,?_,?_⟩
  .rw[T.length];exact aF hl QO
  .exact ok _ _ F2 (zx.write j h1 (T.snoc q2))
 .cases e
structure sW (K:ab) (J:It) (F:Hp) (xs:List PV):Prop where
 go:∀i H,i<xs.length->Same F H->J.go i H
 yld:∀i H x H',i<xs.length->Same F H->J.yld i H x H'->∃p,xs[i]?=Z p/\∀F1,Same F F1->Same F1 H->∃F2,pd F1 H F2 H'/\o3 K F2 p x
 stop:∀H,Same F H->J.stop xs.length H
inductive tMI (K:ab) (ms:List Nat) (m:oN->Option (List PV)) (σ:St) (H:Hp) (R:It->Hp->Prop):Prop
 |mk F γ xs:Same F H->qf K F σ γ ms->m γ=Z xs->(∀J H' F',pd F H F' H'->sW K J F' xs->R J H')->tMI K ms m σ H R
def IM(X:Cx)(ms:List Nat)(l iter:Expr)(m:oN->Option (List PV)):Prop:=PI X l iter (tMI X.K ms m)
def _root_.L2.PI.imp(h:PI X B e t)(i:∀l H R,t' l H R->t l H R):PI X B e t':=λj s l H R I q=>h j s l H R I (i l H R q)
def pG(m:pI):oN->Option (List PV):=λj=>(m j).bind λp=>match p with
 |.lst xs=>Z xs
 |_=>O
def qO(m:pI):oN->Option (List PV):=λj=>(m j).bind λp=>match p with
 |.tup xs=>Z xs
 |_=>O
def xo(h:EM X ms e m):IM X ms L e (pG m):=PI.imp (B5 h) λM H R t=>by
 obtain⟨F,u,xs,h1,h2,h3,w⟩:=t;obtain⟨p,e1,e2⟩:=Qc h3;refine⟨F,u,p,h1,h2,e1,λv B zy g q=>?_⟩;cases p with
 |lst ys =>
  cases e2;obtain⟨a,vs,rfl,k2,j⟩:=q;refine⟨a,rfl,⟨vs,g.sub.seq k2⟩,w _ _ _ g ?_⟩;refine⟨λi H l e=>?_,λi H x B l e y=>?_,λH e=>?_⟩
  .have D:i<vs.length:=by rw[j.length];exact l
   exact⟨vs,vs[i],e.seq k2,by simp[D]⟩
  .obtain⟨rfl,y⟩:=y;obtain⟨p,e2,e3⟩:=j.back (y vs (e.seq k2));exact⟨p,e2,λE I J=>⟨E,.refl J,e3.mono I⟩⟩
  .exact⟨vs,e.seq k2,by rw[j.length];grind⟩
 |_=>cases e2
def xp(h:EM X ms e m):IM X ms L e (qO m):=PI.imp (HN h) λM H R t=>by
 obtain⟨F,u,xs,h1,h2,h3,w⟩:=t;obtain⟨p,e1,e2⟩:=Qc h3;refine⟨F,u,p,h1,h2,e1,λv B zy g q=>?_⟩;cases p with
 |tup ys =>
  cases e2;obtain⟨a,vs,rfl,k2,j⟩:=q;refine⟨a,rfl,⟨vs,g.sub.seqT k2⟩,w _ _ _ g ?_⟩;refine⟨λi H l e=>?_,λi H x B l e y=>?_,λH e=>?_⟩
  .have D:i<vs.length:=by rw[j.length];exact l
   exact⟨vs,vs[i],e.seqT k2,by simp[D]⟩
  .obtain⟨rfl,y⟩:=y;obtain⟨p,e2,e3⟩:=j.back (y vs (e.seqT k2));exact⟨p,e2,λE I J=>⟨E,.refl J,e3.mono I⟩⟩
  .exact⟨vs,e.seqT k2,by rw[j.length];grind⟩
 |_=>cases e2
def tA(lo l:Int):List PV:=(ai (l-lo).toNat).map λk=>.int (lo+(k:Nat))
def Vj lo l:(tA lo l).length=(l-lo).toNat:=by simp[tA]
def Qlg{K:ab} lo l:sW K (Sk lo (l-lo).toNat) F (tA lo l):=by
 refine⟨λi H j e=>?_,λi H x B j e y=>?_,λH e=>?_⟩
 .rw[Vj]at j;exact j
 .obtain⟨rfl,rfl⟩:=y;rw[Vj]at j;exact⟨.int (lo+i),by simp[tA,j],λt D u=>⟨t,.refl u,Qp _⟩⟩
 .rw[Vj];exact au _
def vA(j:Int):Bool:=cls (-(2^62)<=j/\j<2^62)
def MZ(h:vA j=Y) : -(2^62)<=j/\j<2^62:=N2 h
def Vk(h1 : -(2^62)<=j)(h2:j<2^62):vA j=Y:=N3 ⟨h1,h2⟩
def rk(m:pI):oN->Option (List PV):=λl=>(m l).bind λp=>match p with
 |.int j=>if vA j=Y then Z (tA 0 j) else O
 |_=>O
def vB(l:Gl X "range")(hm:X.mg "range"=O)(B:AM X ms [a] (Qa m oK))(hs:ah [a] X.env=[(U,eval a X.env)]:=by rfl):IM X ms zy (.Call (.Name "range" p2) [a] [] D) (rk m) :=
 PI.imp (Z6 l hm B hs) λT H R u=>by
  obtain⟨F,E,xs,h1,h2,h3,w⟩:=u;obtain⟨p,e1,e2⟩:=Qc h3;refine⟨F,E,[p],h1,h2,by simp[Qa,oK,e1],λvs zx I g q=>?_⟩;obtain⟨v,t,rfl,q,J⟩:=q;subst J;cases p with
  |int j =>
   obtain⟨c,rfl⟩:=Qi e2;obtain⟨L,M⟩:=MZ c;subst q;refine⟨j,rfl,L,M,w _ _ _ g ?_⟩;have:=Qlg (K:=X.K) (F:=I) 0 j;simpa using this
  |_=>cases e2
noncomputable def pQ(g:PV->oN->Option oN)(b:pW):List PV->oN->Option tV
 |[],l=>Z (.nx l)
 | x::xs,l=>(g x l).bind λγ1=>(b γ1).bind λo=>match o with
  |.nx j=>pQ g b xs j
  |.ct j=>pQ g b xs j
  |.bk j=>Z (.nx j)
  |.rt p=>Z (.rt p)
  |.ro ys=>Z (.ro ys)
def qv(ms:List Nat)(l:oN->Option (List PV))(g:PV->oN->Option oN)(b:pW):pW:=λj=>(l j).bind λxs=>pQ g b xs (frz ms j)
def QiI{K:ab}(L:SR K B l zy I M γ1)(it:sW K J zy xs)(e2:pQ g sb xs γ1=Z o)(ok:GD K B l D o) :
  ∃W:Nat->Nat->St->Hp->Prop,(∃m,W 0 m I M)/\∀i m I H,W i m I H ->
   (J.stop i H/\D.nx I H)\/(J.go i H/\∃N ,(∀zx M,N zx M->∃m',m'<m/\W (i+1) m' zx M)/\∀x M,J.yld i H x M->Op K ts g x I M λT zw=>Om K sb { D with nx:=N,ct:=N,bk:=D.nx } T zw):=by
 refine⟨λi m I H=>m=xs.length-i/\i<=xs.length/\∃F E,SR K B l F I H E/\Same zy F/\pQ g sb (xs.drop i) E=Z o,⟨xs.length,by simp,b9 _,zy,γ1,L,Same.refl _,by simpa using e2⟩,?_⟩;rintro i m T zw ⟨rfl,hi,F2,az,u,x2,e2⟩;by_cases t:i<xs.length
 .refine .inr ⟨it.go i zw t (x2.trans u.sub),λI H=>∃F E,SR K B l F I H E/\Same zy F/\pQ g sb (xs.drop (i+1)) E=Z o,λzx M q=>⟨xs.length-(i+1),by omega,rfl,t,q⟩,λx H3 y=>?_⟩;obtain⟨p,e3,hy⟩:=it.yld i zw x H3 t (x2.trans u.sub) y;obtain⟨F3,g3,r3⟩:=hy F2 x2 u.sub;have S3:=u.grow g3;have ed:xs.drop i=p::xs.drop (i+1):=by
   have q:=(ax.mp e3)
   obtain⟨q1,q2⟩:=q;rw[<-q2];exact cy q1
  rw[ed]at e2;obtain⟨av,e4,e2⟩:=Qc e2;obtain⟨ob,e5,e2⟩:=Qc e2;refine⟨B,l,F3,az,p,av,S3,r3,e4,λaq S4 _ _=>?_⟩;have x3 :=x2.trans g3.ext;refine⟨B,zy,F3,av,ob,S4.up L.f0 x3,e5,?_⟩;cases ob with
  |nx j=>exact λI H F S=>⟨F,j,S.down L.f0 L.fb,S.f0,e2⟩
  |ct j=>exact λI H F S=>⟨F,j,S.down L.f0 L.fb,S.f0,e2⟩
  |bk j =>
   cases e2;exact λI H F S=>ok I H F (S.down L.f0 L.fb)
  |rt p =>
   cases e2;exact λv H F gr r=>ok v H F (gr.down L.f0 L.fb) r
  |ro ys =>
   cases e2;exact λa vs H F gr n nF hH r=>ok a vs H F (gr.down L.f0 L.fb) n nF hH r
 .have e:i=xs.length:=by lia
  subst e;rw[jM]at e2;cases e2;exact .inl ⟨it.stop zw (x2.trans u.sub),ok T zw F2 u⟩
def Ji{X:Cx}{l:oN->Option (List PV)}(L:jJ (model X.prog X.w) X.A X.env X.xe)(hc:X.calm=Y)(M:IM X ms I iter l)(zx:GM X ts I g)(T:ua X body sb)(hs:∀x,cC iter X.env x=pure x:=by intro _;rfl):SM X (.For I iter body [] zw) (qv ms l g sb):=PS.imp (ww L hc M zx T hs) λD σ H u=>by
 obtain⟨B,j,F,E,o,S,e,ok⟩:=u;obtain⟨xs,e1,e2⟩:=Qc e;obtain⟨zy,t,x1,er⟩:=S.see ms;exact⟨zy,E,xs,t.sub,er,e1,λJ H' F' gr it=>QiI (t.grow gr) it e2 ok⟩
def BI(l:oN->Option (List PV))(g:PV->oN->Option oN)(b:pW):pW:=λj=>(l j).bind λxs=>pQ g b xs j
def SA(X:Cx)(ms:List Nat)(B iter:Expr)(m:oN->Option (List PV)):Prop:=PI X B iter λt H R=>∃F j xs,Same F H/\qf X.K F t j ms/\m j=Z xs/\∀J l,Same H l->(∀F,sW X.K J F xs)->R J l
def vg{X:Cx}{l:oN->Option (List PV)}(L:jJ (model X.prog X.w) X.A X.env X.xe)(hc:X.calm=Y)(M:SA X ms I iter l)(zx:GM X ts I g)(T:ua X body sb)(hs:∀x,cC iter X.env x=pure x:=by intro _;rfl):SM X (.For I iter body [] zw) (BI l g sb):=PS.imp (ww L hc M zx T hs) λD σ H t=>by
 obtain⟨B,j,F,u,o,S,e,ok⟩:=t;obtain⟨xs,e1,e2⟩:=Qc e;obtain⟨E,zy,x1,er⟩:=S.see ms;exact⟨E,u,xs,zy.sub,er,e1,λJ H' sm it=>QiI (S.same sm) (it F) e2 ok⟩
def uD(l:Gl X "range")(hm:X.mg "range"=O)(B:AM X ms [a] (Qa m oK))(hs:ah [a] X.env=[(U,eval a X.env)]:=by rfl):SA X ms M (.Call (.Name "range" p2) [a] [] D) (rk m) :=
 PI.imp (Z6 l hm B hs) λzy H R u=>by
  obtain⟨F,E,xs,h1,h2,h3,w⟩:=u;obtain⟨p,e1,e2⟩:=Qc h3;refine⟨F,E,[p],h1,h2,by simp[Qa,oK,e1],λvs T zx g q=>?_⟩;obtain⟨v,t,rfl,q,I⟩:=q;subst I;cases p with
  |int j =>
   obtain⟨c,rfl⟩:=Qi e2;obtain⟨J,L⟩:=MZ c;subst q;refine⟨j,rfl,J,L,w _ _ g.same λF=>?_⟩;have:=Qlg (K:=X.K) (F:=F) 0 j;grind
  |_=>cases e2
def GG(t:oN->Option Bool)(b:pW):Nat->oN->Option tV
 |0,_=>O
 | n+1,l=>(t l).bind λk=>if k=Y then (b l).bind λo=>match o with
   |.nx j=>GG t b n j
   |.ct j=>GG t b n j
   |.bk j=>Z (.nx j)
   |.rt p=>Z (.rt p)
   |.ro ys=>Z (.ro ys)
  else Z (.nx l)
def Oq(N:Nat)(t:oN->Option Bool)(b:pW):pW:=GG t b N
def xq{X:Cx} N (T:jJ (model X.prog X.w) X.A X.env X.xe) (hc:TM X ms c t) (zw:ua X body sb):SM X (.While c body [] zy) (Oq N t sb):=PS.imp (wt T hc zw) λD E H zz=>by
 obtain⟨B,j,F,u,o,S,e,ok⟩:=zz;refine⟨λn E H=>∃F u,SR X.K B j F E H u/\GG t sb n u=Z o,⟨N,F,u,S,e⟩,?_⟩;rintro n I H1 ⟨L,γ1,J,e1⟩;cases n with
 |zero=>cases e1
 |succ n =>
  obtain⟨k,e2,e1⟩:=Qc e1;obtain⟨F2,S2,x2,er⟩:=J.see ms;refine⟨F2,γ1,k,S2.sub,er,e2,λM F' g=>?_⟩;cases k with
  |true =>
   obtain⟨zx,e3,e1⟩:=Qc e1;refine⟨λE H=>∃F u,SR X.K B j F E H u/\GG t sb n u=Z o,λav M q=>⟨n,cR n,q⟩,B,j,L,γ1,zx,J.same g.same,e3,?_⟩;cases zx with
   |nx l=>exact λE H F S=>⟨F,l,S,e1⟩
   |ct l=>exact λE H F S=>⟨F,l,S,e1⟩
   |bk l=>cases e1;exact ok
   |rt p=>cases e1;exact ok
   |ro ys=>cases e1;exact ok
  |false =>
   cases e1;exact ok I M L (J.same g.same)
end
def vC(l:oN)(j:Nat):Slot:=match qr l j with
 |some p=>.fz p
 |none=>.un
def su(nt:Nat)(l:List Nat)(B:oN):oN:=gq nt .un++l.map (vC B)
def YX(g:PV->oN->Option oN)(t:oN->Option Bool)(e:pI)(l:oN):List PV->Option (List PV)
 |[]=>Z []
 |x::xs=>(g x l).bind λγ1=>(t γ1).bind λk=>if k=Y then (e γ1).bind λy=>(YX g t e l xs).map (y :: ·) else YX g t e l xs
def Qo(B:oN->Option (List PV))(nt:Nat)(l:List Nat)(g:PV->oN->Option oN)(t:oN->Option Bool)(e:pI):oN->Option (List PV) :=
 λj=>(B j).bind λxs=>if xs.length<=qy then YX g t e (su nt l j) xs else O
def Qw:oN->Option Bool:=λ_=>Z Y
def Jj(X:Cx)(ms:List Nat)(l:List Expr)(t:oN->Option Bool):Prop:=uz X l (GA X.K ms t)
def Jk:Jj X [] [] Qw:=λj s l H Q I ⟨F,t,r,h1,h2,h3,w⟩=>wR j s l H Q I (by
 cases h3;exact w H F (.refl h1))
def Jl(h:TM X ms c t):Jj X ms [c] t:=wS h
def Jm{K:ab}(h:Same F H)(I:qf K F D B l):SR K H F F (XT nt l D) H (su nt l B):=by
 have key:∀i t,(su nt l B)[i]?=Z t->t = .un\/∃j p,l[i-nt]?=Z j/\nt<=i/\qr B j=Z p/\t = .fz p:=λi t e=>by
  delta su at e;by_cases u:i<nt
  .rw[cx (by simpa using u),dM,aw u]at e;exact .inl (bi e).symm
  .rw[dm (by simpa using u),dw,aI]at e;cases q:l[i-nt]? with
   |none=>rw[q]at e;cases e
   |some j =>
    rw[q]at e;have e :=bi e;unfold vC at e;split at e
    .rename_i p J;exact .inr ⟨j,p,rfl,by lia,J,e.symm⟩
    .exact .inl e.symm
 refine⟨h,Same.refl _,Same.refl _,λa o e=>.inl e,by simp[XT,su],λi p e=>?_,λi xs e=>?_,λi j xs ys a _ e=>?_⟩
 .rcases key i _ e with z|⟨j,E,e1,u,e2,z⟩
  .cases z
  .cases z;obtain⟨v,h1,h2⟩:=I j (bV e1) p e2;refine⟨v,?_,h2⟩;delta XT;rw[dm (by simpa using u),dw,aI,e1];show Z ((D[j]?).getD O)=Z (Z v);rw[h1];rfl
 .rcases key i _ e with z|⟨j,E,e1,u,e2,z⟩<;>cases z
 .rcases key i _ e with z|⟨L,E,e1,u,e2,z⟩<;>cases z
def Vl{l:oN}(h:∀(j:Nat) xs,l[j]?≠Z (.ow xs)):∀(j:Nat) xs,(l.set i (.fz p))[j]?≠Z (.ow xs):=λj xs e=>by
 by_cases z:i=j
 .subst z;by_cases t:i<l.length
  .rw[ba t]at e;cases e
  .rw[bg (by simpa using t)]at e;cases e
 .rw[aD z]at e;exact h j xs e
def xr:∀(j:Nat) xs,(su nt l B)[j]?≠Z (.ow xs):=λj xs e=>by
 delta su at e;by_cases t:j<nt
 .rw[cx (by simpa using t),dM,aw t]at e;cases e
 .rw[dm (by simpa using t),dw,aI]at e;cases q:l[j-nt]? with
  |none=>rw[q]at e;cases e
  |some k =>
   rw[q]at e;have e :=bi e;unfold vC at e;split at e<;>cases e
def tD(g:PV->oN->Option oN):Prop:=∀p t l,g p t=Z l->(∀(j:Nat) xs,t[j]?≠Z (.ow xs))->∀(j:Nat) xs,l[j]?≠Z (.ow xs)
def vD i:tD (oY i):=λp l j e h=>by cases e;exact Vl h
def uE i j:tD (ZQ i j):=λp t l e h=>by
 delta ZQ at e;split at e
 .cases e;exact Vl (Vl h)
 .cases e
section
def QfT{K:ab}{zx T:Hp}{J:It}{σ:St}{γ:oN}{xs ys:List PV}{Qd:Addr->Hp->Prop}(aq:∀i∈ts,i<nt)(aj:tD g)(h1:Same zx T)(er:qf K zx σ γ l)(it:sW K J zx xs)(hl:xs.length<=qy)(e:YX g t m (su nt l γ) xs=Z ys)(w:∀D vs H2 F2,pd zx T F2 H2->T D=O->F2 D=O->H2 D=Z (.lst vs)->oP K F2 ys vs->Qd D H2) :
  NT J nt l (Op K ts g) (GA K ns t) (tM K ls m) σ T Qd:=by
 intro D hD;have ak :=h1.free hD;refine⟨λi k B H=>k=xs.length-i/\i<=xs.length/\∃F ps pb,pd zx T F H/\F D=O/\H D=Z (.lst B)/\oP K F ps B/\YX g t m (su nt l γ) (xs.drop i)=Z pb/\ps++pb=ys/\ps.length<=i,
  ⟨xs.length,by simp,b9 _,zx,[],ys,.side h1 hD,ak,Qf,.nil,by simpa using e,rfl,au _⟩,?_⟩
 rintro i k B H ⟨rfl,hi,F,ps,pb,gr,nF,hH,rp,e,ey,bv⟩;by_cases E:i<xs.length
 .refine .inr ⟨it.go i H E (gr.ext.trans gr.sub),λx H3 y=>?_⟩;obtain⟨p,e3,hy⟩:=it.yld i H x H3 E (gr.ext.trans gr.sub) y;obtain⟨F3,zw,r3⟩:=hy F gr.ext gr.sub;have ed:xs.drop i=p::xs.drop (i+1):=by
   obtain⟨q1,q2⟩:=ax.mp e3;rw[<-q2];exact cy q1
  rw[ed]at e;obtain⟨I,e4,e⟩:=Qc e;obtain⟨b,e5,e⟩:=Qc e;have aJ:=gr.trans zw;have S3:=Jm (nt:=nt) zw.sub (er.mono aJ.ext);refine⟨H3,F3,F3,_,p,I,S3,r3,e4,λbz S4 l4 k4=>⟨⟨l4,λn v hv=>?_⟩,?_⟩⟩
  .by_cases hn:n∈ts
   .have zy:=aq n hn;unfold XT at hv;rw[cx (by simpa using zy),dM,aw zy]at hv;cases hv
   .rw[k4 n hn];exact hv
  .have av:=aj p _ I e4 xr;refine⟨F3,I,b,zw.sub,S4.erep λj _=>av j,e5,λH5 F5 g5=>?_⟩;have nD:∀{F' H':Hp},pd F H F' H'->F' D=O:=λ{F' H'} u=>by
    cases q:F' D with
    |none=>rfl
    |some o =>
     rcases u.new D o q with z | z
     .rw[nF]at z;cases z
     .rw[hH]at z;cases z
   cases b with
   |true =>
    obtain⟨yv,e6,e⟩:=Qc e;obtain⟨M,e7,e8⟩:=Zi e;refine⟨F5,I,yv,g5.sub,(S4.erep λj _=>av j).mono g5.ext,e6,λv H6 F6 g6 q6=>?_⟩;have u:=zw.trans (g5.trans g6);have aZ :=u.same _ _ hH;have az:=nD u;refine⟨aZ,?_,xs.length-(i+1),by lia,rfl,E,F6,ps++[yv],M,?_,az,Qf,(rp.mono u.ext).snoc q6,e7,?_,?_⟩
    .rw[rp.length];exact aF (by lia) QO
    .have L:=gr.trans u;refine⟨L.ext,λa o q=>?_,λa o q=>?_,L.new⟩
     .rw[Qh (Qg q az)];exact L.sub a o q
     .rw[Qh (Qg q hD)];exact L.same a o q
    .rw[bX,gB,e8];exact ey
    .rw[a0,lL];lia
   |false =>
    have u:=zw.trans g5;exact⟨xs.length-(i+1),by lia,rfl,E,F5,ps,pb,gr.trans u,nD u,u.same _ _ hH,rp.mono u.ext,e,ey,by lia⟩
 .have e':i=xs.length:=by lia
  subst e';rw[jM]at e;cases e;rw[bB]at ey;subst ey;exact .inl ⟨it.stop H (gr.ext.trans gr.sub),w D B H F gr hD nF hH rp⟩
def CU(hc:X.calm=Y)(ck:qa X.N X.env.scope scope zx nt B)(T:∀i∈ts,i<nt)(zw:tD g)(hi:IM X ms tg iter mi)(hg:∀l I C s H L,GM (YY X l zx (Qx X.env.scope scope) I C s H L) ts tg g)(ht:∀l I C s H L,Jj (YY X l zx (Qx X.env.scope scope) I C s H L) ns zy t)(he:∀l I C s H L,EM (YY X l zx (Qx X.env.scope scope) I C s H L) ls av m)(hs:∀x,cC iter X.env x=pure x:=by intro _;rfl)(M:relabel scope X.env=Qx X.env.scope scope:=by rfl) :
  EO X (ms++B) (.ListComp av [⟨tg,iter,zy,0⟩] scope az) (Qo mi nt B g t m) :=
 PE.imp (Ct (g:=Op X.K ts g) (tc:=GA X.K ns t) (te:=tM X.K ls m) hc ck hi hg ht he hs M) λσ H Q E=>by
  obtain⟨F,γ,ys,h1,h2,h3,w⟩:=E;obtain⟨xs,e1,h3⟩:=Qc h3;have u:xs.length<=qy:=by
   grind
  rw[aw u]at h3;refine⟨F,γ,xs,h1,h2.left,e1,λJ H1 F1 j it=>?_⟩;exact QfT T zw j.sub (h2.right.mono j.ext) it u h3 λD vs H2 F2 g2 n nF hH q=>w D vs H2 F2 (j.trans g2) (j.same.free n) nF hH q
def Qdj(hN:X.N.Nodup)(av:X.N[i]?=Z y)(hy:X.env.scope.names.lookup y=Z .local)(hc:X.calm=Y)(ck:qi X.N X.env.scope scope N' nt I)(az:∀i∈ts,i<nt)(aq:tD g)(hi:IM X ms tg iter mi)(hg:∀l L C s H M,GM (YA X (qX scope) l N' (Qx X.env.scope scope) L C s H M) ts tg g)(ht:∀l L C s H M,Jj (YA X (qX scope) l N' (Qx X.env.scope scope) L C s H M) ns zx t)(he:∀l L C s H M,EM (YA X (qX scope) l N' (Qx X.env.scope scope) L C s H M) ls T m)(aj:c7 (.ListComp T [⟨tg,iter,zx,0⟩] scope ak) (Z (.Name y py)) zw.line X.env=pure Y:=by rfl)(hs:∀x,cC iter X.env x=pure x:=by intro _;rfl)(zy:relabel scope X.env=Qx X.env.scope scope:=by rfl) :
  SM X (.Assign [.Name y py] (.ListComp T [⟨tg,iter,zx,0⟩] scope ak) zw) (Qs (ms++I) i (Qo mi nt I g t m)) :=
 PS.imp (Qhw (g:=Op X.K ts g) (tc:=GA X.K ns t) (te:=tM X.K ls m) hN av hy hc ck hi hg ht he aj hs zy) λD σ H zz=>by
  obtain⟨B,u,F,γ,o,S,e,ok⟩:=zz;obtain⟨ys,h3,e2⟩:=Zi e;subst e2;obtain⟨xs,e1,h3⟩:=Qc h3;have E:xs.length<=qy:=by
   grind
  rw[aw E]at h3;obtain⟨F1,S1,x1,er⟩:=S.see (ms++I);refine⟨F1,γ,xs,S1.sub,er.left,e1,λJ H1 F2 j it=>?_⟩;refine QfT az aq j.sub (er.right.mono j.ext) it E h3 λD vs H2 F3 g2 n nF hH q=>?_;obtain⟨F4,S4⟩:=S.setNew x1 S1 (j.trans g2) (j.same.free n) nF hH q i;exact ok _ _ F4 S4
def Qjg(hN:X.N.Nodup)(zy:X.N[i]?=Z y)(hy:X.env.scope.names.lookup y=Z .local)(hc:X.calm=Y)(zw:qa X.N X.env.scope scope N' nt B)(av:∀i∈ts,i<nt)(az:tD g)(hi:IM X ms tg iter mi)(hg:∀l D C s H I,GM (YY X l N' (Qx X.env.scope scope) D C s H I) ts tg g)(ht:∀l D C s H I,Jj (YY X l N' (Qx X.env.scope scope) D C s H I) ns L t)(he:∀l D C s H I,EM (YY X l N' (Qx X.env.scope scope) D C s H I) ls M m)(aq:c7 (.ListComp M [⟨tg,iter,L,0⟩] scope aj) (Z (.Name y py)) zx.line X.env=pure Y:=by rfl)(hs:∀x,cC iter X.env x=pure x:=by intro _;rfl)(T:relabel scope X.env=Qx X.env.scope scope:=by rfl) :
  SM X (.Assign [.Name y py] (.ListComp M [⟨tg,iter,L,0⟩] scope aj) zx) (Qs (ms++B) i (Qo mi nt B g t m)):=Qdj hN zy hy hc zw.C av az hi (by rw[zw.eqC];exact hg) (by rw[zw.eqC];exact ht) (by rw[zw.eqC];exact he) aq hs T
end
def Zp(n:Nat)(ps:List PV):oN:=ps.map .fz++gq (n-ps.length) .un
noncomputable def rm:tV->Option PV
 |.nx _=>Z .non
 |.rt p=>Z p
 |.ro xs=>Z (.lst xs)
 |_=>O
def CV:tV->Option (List PV)
 |.ro xs=>Z xs
 |_=>O
def oX(N n:Nat)(m:pW)(ps:List PV):Option PV:=if ps.length=n then (m (Zp N ps)).bind rm else O
def ub(N n:Nat)(m:pW)(ps:List PV):Option (List PV):=if ps.length=n then (m (Zp N ps)).bind CV else O
def qP:∀ps r,oX N n m ps=Z r->ps.length=n:=λps r h=>by
 grind[oX]
def xt:∀ps r,ub N n m ps=Z r->ps.length=n:=λps r h=>by
 grind[ub]
def Ot{K:ab}(h:Same F H)(r:oP K F ps vs):SR K H F F (Xj N vs) H (Zp N.length ps):=by
 have key:∀(i:Nat) t,(Zp N.length ps)[i]?=Z t->t = .un\/∃p,ps[i]?=Z p/\t = .fz p:=λi t e=>by
  delta Zp at e;by_cases l:i<ps.length
  .rw[cx (by simpa using l),aI]at e;cases q:ps[i]? with
   |none=>rw[q]at e;cases e
   |some p=>rw[q]at e;exact .inr ⟨p,rfl,(bi e).symm⟩
  .rw[dm (by simpa using l),dM]at e;split at e
   .exact .inl (bi e).symm
   .cases e
 refine⟨h,Same.refl _,Same.refl _,λa o e=>.inl e,?_,λi p e=>?_,λi xs e=>?_,λi j xs ys a _ e=>?_⟩
 .delta Xj Zp;rw[a0,a0,ag,ag,dw,dw,r.length]
 .rcases key i _ e with z|⟨u,e1,z⟩
  .cases z
  .cases z;obtain⟨v,h1,h2⟩:=r.get e1;refine⟨v,?_,h2⟩;delta Xj;have l :=(ax.mp h1).1;rw[cx (by simpa using l),aI,h1];rfl
 .rcases key i _ e with z|⟨u,e1,z⟩<;>cases z
 .rcases key i _ e with z|⟨u,e1,z⟩<;>cases z
section
def Vm{P:bh}{K:ab}{st:Stmt}(I:sO K x qual st f fd)(L:pB N ps (Qe st))(M:ps.length=n)(B:∀l A outer s H E,o8 k (A.deeper (fR qual (Qe st) s.heap.objs.size f l)) ->
   ua (qI qh P w K mg base N qual (Qe st) f l A outer s H E).nox (Qn st) m):FnOk P w K mg base qh (k+1) f fd ps (spM K n (oX N.length n m)):=by
 refine I.ok L (λvs H Q E h=>by rw[h.1,M]) λl A outer s H vs Q E hr h=>?_;refine⟨_,B l A outer s H E hr,?_⟩;obtain⟨J,F,qs,r,h1,h2,h3,u⟩:=h;unfold oX at h3;have hq:qs.length=n:=by rw[<-h2.length];exact J
 rw[aw hq]at h3;obtain⟨o,e1,e2⟩:=Qc h3;refine⟨H,F,F,_,o,Ot h1 h2,e1,?_⟩;cases o with
 |nx D=>cases e2;exact λzy j t S=>u .non j t S.gr QkM
 |rt p=>cases e2;exact λv j t g q=>u v j t g q
 |ro xs=>cases e2;exact λa vs j t g n T zx q=>u.of_lst a vs j t g n T zx q
 |_=>cases e2
def fnO{P:bh}{w:cg}{K:ab}{mg:Str->Option Value}{base:Heap}{st:Stmt}(D:sO K x qual st f fd)(I:pB N ps (Qe st))(L:ps.length=n)(B:∀l A outer s H E,o8 k (A.deeper (fR qual (Qe st) s.heap.objs.size f l)) ->
   ua (qI qh P w K mg base N qual (Qe st) f l A outer s H E).nox (Qn st) m):FnOk P w K mg base qh (k+1) f fd ps (Ol K n (ub N.length n m)):=by
 refine D.ok I (λvs H Q E h=>by rw[h.1,L]) λl A outer s H vs Q E hr h=>?_;refine⟨_,B l A outer s H E hr,?_⟩;obtain⟨t,F,qs,r,h1,h2,h3,u⟩:=h;unfold ub at h3;have hq:qs.length=n:=by rw[<-h2.length];exact t
 rw[aw hq]at h3;obtain⟨o,e1,e2⟩:=Qc h3;refine⟨H,F,F,_,o,Ot h1 h2,e1,?_⟩;cases o with
 |ro xs=>cases e2;exact λa vs J M g n zy T q=>u a vs J M g n zy T q
 |_=>cases e2
def _root_.L2.FnOk.sw{P:bh}{K:ab}(F:FnOk P w K mg base qh k f fd ps (spM K n g))(h:∀qs r,l qs=Z r->g qs=Z r):FnOk P w K mg base qh k f fd ps (spM K n l) :=
 F.imp λvs H Q E j=>by obtain⟨t,F,qs,r,h1,h2,h3,u⟩:=j;exact⟨t,F,qs,r,h1,h2,h qs r h3,u⟩
end
section
def Jn:PV->String
 |.non=>"NoneType"
 |.bl _=>"bool"
 |.int _=>"int"
 |.str _=>"str"
 |.tup _=>"tuple"
 |.lst _=>"list"
 |.obj _ _ _=>"object"
 |.opq _=>"object"
def SD:PV->Bool
 |.obj _ _ _=>Y
 |.opq _=>Y
 |_=>U
def isInt:PV->Bool
 |.int _=>Y
 |.bl _=>Y
 |_=>U
def Jo:PV->Bool
 |.bl _=>Y
 |_=>U
def Ou:PV->Bool
 |.str _=>Y
 |_=>U
def xw:PV->Bool
 |.tup _=>Y
 |_=>U
def Ov:PV->Bool
 |.lst _=>Y
 |_=>U
def Ow(T:String)(f:PV->Bool):Prop:=∀p K,SD p=U->PySem.W.kitOne K (.type (Jn p)) (.type T)=Z (f p)
def CW:Ow "str" Ou:=λp K ho=>by cases p<;>first | (cases ho;done) | kernel_rfl
def CY:Ow "list" Ov:=λp K ho=>by cases p<;>first | (cases ho;done) | kernel_rfl
def QjB(I:Inv X B M H s)(D:Same F H)(L:Ow T f)(r:o3 X.K F q v)(l:pq v u)(ho:SD q=U)(h:∀tk,Q (.bool (f q)) { s with toks:=tk }):aE (model X.prog X.w) A (call (.builtin "isinstance") [u,.type T]) Q E s:=by
 have e:=L q X.K ho;cases q with
 |non=>subst r;cases l;exact fV PySem.W.kitx_none I.kIn iJ e (λz=>nomatch z) h
 |bl y=>subst r;cases l;exact fV PySem.W.kitx_bool I.kIn iJ e (λz=>nomatch z) h
 |int y=>subst r;obtain⟨t,rfl⟩:=l;exact fV PySem.W.kitx_int I.kIn iJ e (λz=>nomatch z) h
 |str y=>subst r;obtain⟨t,rfl⟩:=l;exact fV PySem.W.kitx_str I.kIn iJ e (λz=>nomatch z) h
 |tup ys =>
  obtain⟨a,vs,rfl,k2,_⟩:=r;cases l;obtain⟨j,_,⟨o,ho,hc,_⟩,_⟩:=I.tuple (D.seqT k2);exact fV PySem.W.kitx_tuple I.kIn ⟨o,ho,hc⟩ e (λz=>nomatch z) h
 |lst ys =>
  obtain⟨a,vs,rfl,k2,_⟩:=r;cases l;obtain⟨j,_,⟨o,n,ho,hc,_⟩,_⟩:=I.list (D.seq k2);exact fV PySem.W.kitx_list I.kIn ⟨o,ho,hc⟩ e (λz=>nomatch z) h
 |_=>cases ho
def QhV(B:Ow T f):Yy X (.builtin "isinstance") (λvs H Q=>∃F v q,vs=[v,.ty T]/\Same F H/\o3 X.K F q v/\SD q=U/\Q (.bl (f q)) H):=by
 intro l s D H vs us Q I rs h;obtain⟨F,v,q,rfl,h1,h2,ho,h3⟩:=h;obtain⟨u,w,rfl,t,j⟩:=wD rs;obtain rfl:w=Value.type T:=j;exact QjB I h1 B h2 t ho λtk=>⟨.bl (f q),H,I.tok tk,rfl,h3⟩
def tE(f:PV->Bool)(q:PV):Option PV:=if SD q=U then Z (.bl (f q)) else O
def uc(f:PV->Bool)(m:pI):pI:=λj=>(m j).bind (tE f)
def vE(hi:Ow T f)(h:EM X ms e m)(hg:Gl X "isinstance")(hm:X.mg "isinstance"=O)(D:Gl X x)(I:X.mg x=O)(L:cW x=Z (.type T))(hn:x≠"__name__":=by decide)(M:(x=="__debug__")=U:=by decide)(l:ah (e::[.Name x B]) X.env=(U,eval e X.env)::ah [.Name x B] X.env:=by rfl)(zx:ah [.Name x B] X.env=(U,eval (.Name x B) X.env)::ah [] X.env:=by rfl)(zw:(bA zy (ah [.Name x B] X.env)).any (·.1)=U:=by rfl) :
  EM X ms (.Call (.Name "isinstance" p2) [e,.Name x B] [] zy) (uc f m) :=
 PE.imp (Xe (QhV hi) hg hm (by kernel_rfl) (YD h (YD (B1 (v := .ty T) D I L rfl hn M) Ce zx) l) (by decide) (by decide) l zw) λσ H Q t=>by
  obtain⟨F,u,r,k1,k2,E,w⟩:=t;obtain⟨q,e1,e2⟩:=Qc E;obtain⟨ho,e2⟩:=Qi (e2);subst e2;exact⟨F,u,q,k1,k2,e1,λv H1 J j q1=>⟨J,v,q,rfl,j.sub,q1,ho,(w.go j).here j.sub (Za _)⟩⟩
def o9:List PV->Option PV
 |[.lst xs]=>Z (.int xs.length)
 |[.tup xs]=>Z (.int xs.length)
 |[.str z]=>if z.length<=qy then Z (.int z.length) else O
 |_=>O
set_option tactic.hygienic true in
def Jp:BH X (.builtin "len") o9:=by
 intro j s B H vs us Q I rs h;obtain⟨F,ps,r,h1,h2,h3,w⟩:=h;refine wE j s B H vs us Q I rs ?_;delta o9 at h3;split at h3
 .cases h3;obtain⟨v,t,rfl,h2,l⟩:=h2;subst l;obtain⟨a,us,rfl,k2,u⟩:=h2;exact⟨.ref a,_,rfl,.inl ⟨us,h1.seq k2,u.length.symm⟩,w.here h1 (Qp _)⟩
 .cases h3;obtain⟨v,t,rfl,h2,l⟩:=h2;subst l;obtain⟨a,us,rfl,k2,u⟩:=h2;exact⟨.ref a,_,rfl,.inr ⟨us,h1.seqT k2,u.length.symm⟩,w.here h1 (Qp _)⟩
 .rename_i z;obtain⟨c,rfl⟩:=Qi h3;obtain⟨v,t,rfl,h2,l⟩:=h2;subst l;subst h2;exact⟨.str z,_,rfl,⟨aY c QO,rfl⟩,w.here h1 (Qp _)⟩
 .cases h3
def M0:List PV->Option (List PV)
 |[.lst xs]=>Z xs
 |[.tup xs]=>Z xs
 |_=>O
def Yh:List PV->Option PV
 |[.lst xs]=>Z (.tup xs)
 |[.tup xs]=>Z (.tup xs)
 |_=>O
def CZ:MY X (.type "list") M0:=by
 intro u s E H vs us Q I rs h;obtain⟨F,ps,r,h1,h2,h3,w⟩:=h;refine Qgs u s E H vs us Q I rs ?_;delta M0 at h3;split at h3
 .cases h3;obtain⟨v,t,rfl,h2,B⟩:=h2;subst B;obtain⟨a,us,rfl,k2,D⟩:=h2;exact⟨a,us,rfl,.inl (h1.seq k2),λl j=>w l us _ F (.side h1 j) j (h1.free j) Qf D⟩
 .cases h3;obtain⟨v,t,rfl,h2,B⟩:=h2;subst B;obtain⟨a,us,rfl,k2,D⟩:=h2;exact⟨a,us,rfl,.inr (h1.seqT k2),λl j=>w l us _ F (.side h1 j) j (h1.free j) Qf D⟩
 .cases h3
def xx:BH X (.type "tuple") Yh:=by
 intro j s E H vs us Q I rs h;obtain⟨F,ps,r,h1,h2,h3,w⟩:=h;refine Qfd j s E H vs us Q I rs ?_;delta Yh at h3;split at h3
 .cases h3;obtain⟨v,t,rfl,h2,u⟩:=h2;subst u;obtain⟨a,us,rfl,k2,B⟩:=h2;refine⟨a,us,rfl,.inl ⟨h1.seq k2,λl D=>w _ _ _ (.laid h1 D) ?_⟩⟩;exact⟨l,us,rfl,.of Qf,B.mono (pd.laid h1 D).ext⟩
 .cases h3;obtain⟨v,t,rfl,h2,u⟩:=h2;subst u;obtain⟨a,us,rfl,k2,B⟩:=(by exact h2)
  exact⟨a,us,rfl,.inr ⟨h1.seqT k2,w.here h1 h2⟩⟩
 .cases h3
def xy:List PV->Option PV
 |[.int i,.int j]=>Z (.int (if j>i then j else i))
 |_=>O
def xz:List PV->Option PV
 |[.int i,.int j]=>Z (.int (if j<i then j else i))
 |_=>O
def Jq(hc:X.calm=Y):BH X (.builtin "max") xy:=by
 intro j s B H vs us Q I rs h;obtain⟨F,ps,r,h1,h2,h3,w⟩:=h;refine Qng hc j s B H vs us Q I rs ?_;unfold xy at h3;split at h3
 .cases h3;unfold oP at h2;obtain⟨v,t,rfl,h2,l⟩:=h2;unfold oP at l;obtain⟨D,t',rfl,u,l⟩:=l;unfold oP at l;subst l;unfold o3 at h2 u;subst h2 u;exact⟨_,_,rfl,w.here h1 (Qp _)⟩
 .cases h3
def Jr(hc:X.calm=Y):BH X (.builtin "min") xz:=by
 intro j s B H vs us Q I rs h;obtain⟨F,ps,r,h1,h2,h3,w⟩:=h;refine Qnf hc j s B H vs us Q I rs ?_;delta xz at h3;split at h3
 .cases h3;obtain⟨v,t,rfl,h2,l⟩:=h2;obtain⟨D,t',rfl,u,l⟩:=l;subst l;subst h2 u;exact⟨_,_,rfl,w.here h1 (Qp _)⟩
 .cases h3
end
def Xp:List PV->Option (List Int)
 |[]=>Z []
 |.int i::xs=>(Xp xs).map (i :: ·)
 |_::_=>O
def strs?:List PV->Option (List Str)
 |[]=>Z []
 |.str i::xs=>(strs? xs).map (i :: ·)
 |_::_=>O
def SE ns:Xp (ns.map .int)=Z ns:=by
 induction ns with
 |nil=>rfl
 |cons n ns j=>simp[Xp,j]
def strs?_map ns:strs? (ns.map .str)=Z ns:=by
 induction ns with
 |nil=>rfl
 |cons n ns j=>simp[strs?,j]
noncomputable def Vn:∀{xs:List PV}{ns:List Int},Xp xs=Z ns->xs=ns.map .int:=by
 intro xs;induction xs with
 |nil =>
  intro ns h;cases h;rfl
 |cons x xs j =>
  intro ns h;cases x with
  |int i =>
   unfold Xp at h;cases e:Xp xs with
   |none=>rw[e]at h;cases h
   |some ms=>rw[e]at h;cases h;rw[j e];rfl
  |_=>cases h
def SG:∀{xs:List PV}{ns:List Str},strs? xs=Z ns->xs=ns.map .str:=by
 intro xs;induction xs with
 |nil =>
  intro ns h;cases h;rfl
 |cons x xs j =>
  intro ns h;cases x with
  |str i =>
   unfold strs? at h;cases e:strs? xs with
   |none=>rw[e]at h;cases h
   |some ms=>rw[e]at h;cases h;rw[j e];rfl
  |_=>cases h
def Vo{K:ab}:∀{ns:List Int}{vs:List V},oP K F (ns.map .int) vs->vs=ns.map V.int:=by
 intro ns;induction ns with
 |nil =>
  intro vs h;rw[fr]at h;unfold oP at h;exact h
 |cons n ns j =>
  intro vs h;rw[aT]at h;unfold oP at h;obtain⟨v,r,rfl,h2,h3⟩:=h;unfold o3 at h2;rw[h2,j h3];rfl
def Vp{K:ab}:∀(ns:List Int),oP K F (ns.map .int) (ns.map V.int):=by
 intro ns;induction ns with
 |nil =>
  exact .nil
 |cons n ns j =>
  exact .cons (Qp n) (j)
def XY{K:ab}:∀{ns:List Str}{vs:List V},oP K F (ns.map .str) vs->vs=ns.map V.str:=by
 intro ns;induction ns with
 |nil =>
  intro vs h;rw[fr]at h;unfold oP at h;exact h
 |cons n ns j =>
  intro vs h;rw[aT]at h;unfold oP at h;obtain⟨v,r,rfl,h2,h3⟩:=h;unfold o3 at h2;rw[h2,j h3];rfl
def YM{K:ab}:∀(ns:List Str),oP K F (ns.map .str) (ns.map V.str):=by
 intro ns;induction ns with
 |nil =>
  exact .nil
 |cons n ns j =>
  exact .cons (Iy n) (j)
def YL:∀{ns:List Str}{us:List Value},o4 (ns.map V.str) us->kK us ns:=by
 intro ns;induction ns with
 |nil =>
  intro us r;cases r;exact .nil
 |cons n ns j =>
  intro us r;cases r with
  |cons l u =>
   obtain⟨t,e⟩:=l;subst e;exact .cons n t (j u)
def Vq:∀{vs:List Value}{ns:List Str},kK vs ns->o4 (ns.map V.str) vs:=by
 intro vs ns h;induction h with
 |nil=>exact .nil
 |cons n t h j=>exact .cons ⟨t,rfl⟩ j
section
def xA:List PV->Option PV
 |[.lst xs]=>(Xp xs).map λns=>.int ns.sum
 |_=>O
theorem Qdp:∀{ns:List Int}{us:List Value},jq us ns->∃xs:Array (Int×Tok),us.toArray=lW xs/\xs.toList.map (·.1)=ns
 |_,_,.nil=>⟨#[],by simp[lW],rfl⟩
 |_,_,.cons n t h=>by
  obtain⟨xs,e1,e2⟩:=Qdp h;refine⟨((n,t)::xs.toList).toArray,?_,by simp[e2]⟩;have e3:∀(us:List Value),us.toArray=lW xs->us=xs.toList.map λp=>jI p.1 p.2:=λus e=>by
   have:=congrArg Array.toList e;simpa[lW] using this
  simp[lW,e3 _ e1]
def Qhx(val:Nat->Int)(xs:List Int)(h:∀i,i<xs.length->val i=xs.getD i 0):∀n,n<=xs.length->preSum val n=(xs.take n).sum:=by
 intro n;induction n with
 |zero =>
  intro _;simp[preSum]
 |succ n j =>
  intro t;have l:n<xs.length:=by lia
  rw[preSum,j (by lia),h n (by lia),List.take_succ,oq];simp[l]
def Qnc(hc:X.calm=Y):Yy X (.builtin "sum") (λvs H Q=>∃(a:Addr)(ns:List Int),vs=[.ref a]/\qg X.K H a (ns.map V.int)/\Q (.int ns.sum) H):=by
 intro t s zy H vs us Q I rs h;obtain⟨a,ns,rfl,h2,h3⟩:=h;obtain⟨u,rfl,D⟩:=Zx rs;cases D;obtain⟨E,r,J,_⟩:=I.list h2;obtain⟨xs,e1,e2⟩:=Qdp (UZ r);have B:=J.isList;rw[e1]at B;refine sum_intListG (I.ok.hd hc) B λT tk t' L=>⟨.int ns.sum,H,I.kept (t':=tk) L,⟨t',?_⟩,h3⟩
 have l:ns.length=xs.size:=by rw[<-e2];simp
 have e3:=Qhx (numAt xs) ns (λi M=>by
  delta numAt;rw[<-e2];have j:i<xs.size:=by rw[<-l];exact M
  simp[j]) ns.length (au _)
 rw[List.take_length]at e3;rw[<-l,e3]
set_option tactic.hygienic true in
def Js(hc:X.calm=Y):BH X (.builtin "sum") xA:=by
 intro j s u H vs us Q I rs h;obtain⟨F,ps,r,h1,h2,h3,w⟩:=h;refine Qnc hc j s u H vs us Q I rs ?_;unfold xA at h3;split at h3
 .rename_i xs;obtain⟨ns,e1,rfl⟩:=Zi h3;have e2:=Vn e1;subst e2;unfold oP at h2;obtain⟨v,t,rfl,h2,l⟩:=h2;unfold oP at l;subst l;unfold o3 at h2;obtain⟨a,us,rfl,k2,B⟩:=h2;have e3:=Vo B;subst e3;exact⟨a,ns,rfl,h1.seq k2,w.here h1 (Qp _)⟩
 .cases h3
def Xk(ns:List Int):List Int:=ns.mergeSort λa b=>decide (a<=b)
def Yd ns:(Xk ns).Perm ns:=jd _ _
def QiG ns:(Xk ns).Pairwise (· <= ·):=by
 have:=iE (le:=λ(a b)=>decide (a<=b)) (λa b c h1 h2=>by grind) (by grind) ns;exact this.imp λh=>by grind
def Vr{ns ms:List Int}(l:ms.Perm ns)(hs:ms.Pairwise (· <= ·)):ms=Xk ns :=
 fT (λx y _ _ h1 h2=>Int.le_antisymm h1 h2) hs (QiG ns) (l.trans (Yd ns).symm)
noncomputable def rN(a b:Str):Bool := !decide (b.cps.toList<a.cps.toList)
def QA(ns:List Str):List Str:=ns.mergeSort rN
def Jt(a b:List Nat)(h1:¬a<b)(h2:¬b<a):a=b:=by
 have h3:b<=a:=h1;have j:a<=b:=h2;exact n3 j h3
def Vs a b c (h1:rN a b=Y) (h2:rN b c=Y):rN a c=Y:=by
 delta rN at *;simp at *;have h3 :=h1;have j :=h2;exact List.le_trans h3 j
def QfB a b:(rN a b||rN b a)=Y:=by
 delta rN;grind
def Vt{a b:Str}(h1:rN a b=Y)(h2:rN b a=Y):a=b:=by
 delta rN at *;simp at *;have e:=Jt _ _ h2 h1;obtain⟨a⟩:=a;obtain⟨b⟩:=b;have j :=by simpa using e
 rw[j]
def Qj ns:(QA ns).Perm ns:=jd _ _
def Ox ns:(QA ns).Pairwise (λa b=>rN a b=Y):=iE Vs QfB ns
def M1{ns ms:List Str}(l:ms.Perm ns)(hs:ms.Pairwise (λa b=>rN a b=Y)):ms=QA ns :=
 fT (λx y _ _ h1 h2=>Vt h1 h2) hs (Ox ns) (l.trans (Qj ns).symm)
def Qdu:∀l x,risingS x l=Y->(x::l).Pairwise (λa b=>rN a b=Y):=by
 intro l;induction l with
 |nil =>
  intro x _;simp
 |cons y l j =>
  intro x h;unfold risingS at h;rw[aQ,ltCps_eq]at h;have t:=j y h.2;have h1 :=h.1;rw[b0]at t |-;refine⟨λz hz=>?_,by rw[b0];exact t⟩;rcases ap.mp hz with rfl | hz
  .exact h1
  .exact Vs _ _ _ h1 (t.1 z hz)
def YZ l (h:sortedS l=Y):l.Pairwise (λa b=>rN a b=Y):=by
 cases l with
 |nil=>simp
 |cons x l=>exact Qdu l x h
def GH:List PV->Option (List PV)
 | [.lst xs]=>match Xp xs with
  |some ns=>if ns.length<64 then Z ((Xk ns).map .int) else O
  | none=>match strs? xs with
   |some ss=>if ss.length<64 then Z ((QA ss).map .str) else O
   |none=>O
 |_=>O
set_option tactic.hygienic true in
def sX:MY X (.builtin "sorted") GH:=by
 intro l s σ H vs us Q I rs h;obtain⟨F,ps,r,h1,h2,h3,w⟩:=h;delta GH at h3;split at h3
 .obtain⟨v,t,rfl,h2,ht⟩:=h2;subst ht;obtain⟨a,ws,rfl,k2,k3⟩:=h2;obtain⟨u,rfl,ru⟩:=Zx rs;cases ru;obtain⟨B,J,pl,_⟩:=I.list (h1.seq k2);have D:∀out ys L,o4 ys out.toList->ys.length<=aV->oP X.K F L ys->L=r->EP X l σ Q (.ref (s.heap.objs.size+1)) { s with heap:=sortedAll s.heap B out }:=λout ys L hv hz hr e=>by
   subst e;obtain⟨k,he⟩:=sortedAll_at s.heap B out;have M :=I.hok.fresh (c8 _);refine⟨.ref (s.heap.objs.size+1),pf H (s.heap.objs.size+1) (.lst ys),I.laid (λb o q=>sortedAll_old q) (c8 _) ⟨hz,out.toList,k,hv,?_⟩,rfl,?_⟩
   .simpa[c6] using he
   .exact w _ ys _ F (.side h1 M) M (h1.free M) Qf hr
  split at h3
  .rename_i ns zx;obtain⟨c,rfl⟩:=Qi h3;have e2:=Vn zx;subst e2;have e3:=Vo k3;subst e3;have T:=J.length;rw[ag]at T;refine sorted_ints pl.isList (UZ J) (by lia) λout j zw E zy=>?_;have e4:=Vr E zy;refine D out (j.map V.int) (j.map .int) (U6 zw) ?_ (Vp j) (by rw[e4]);rw[ag,E.length_eq];exact cb (fL c (by decide))
  .split at h3
   .rename_i ss av;obtain⟨c,rfl⟩:=Qi h3;have e2:=SG av;subst e2;have e3:=XY k3;subst e3;have T:=J.length;rw[ag]at T;refine sorted_strs pl.isList (YL J) (by lia) λout j zw E zy=>?_;have e4:=M1 E (YZ _ zy);refine D out (j.map V.str) (j.map .str) (Vq zw) ?_ (YM j) (by rw[e4]);rw[ag,E.length_eq];exact cb (fL c (by decide))
   .cases h3
 .cases h3
def BJ(K:ab)(g:PV->List PV->Option PV):V->List V->Hp->VK->Prop:=λx vs H Q=>∃F p ps r,Same F H/\o3 K F p x/\oP K F ps vs/\g p ps=Z r/\Wv K F H r Q
def Oy(K:ab)(g:PV->List PV->Option (List PV)):V->List V->Hp->VK->Prop:=λx vs H Q=>∃F p ps r,Same F H/\o3 K F p x/\oP K F ps vs/\g p ps=Z r/\Wo K F H r Q
noncomputable def ud(T:String):PV->Bool
 |.str _=>T=="str"
 |.int _=>T=="int"
 |.lst _=>T=="list"
 |_=>U
def rO(T:String)(g:PV->List PV->Option α)(m:pI)(l:oN->Option (List PV)):oN->Option α:=λj=>(m j).bind λp=>if ud T p=Y then (l j).bind λps=>g p ps else O
def Vu{K:ab}{p:PV}(h:Same F H)(r:o3 K F p v)(t:ud T p=Y):NP K T v H:=by
 cases p with
 |str z=>subst r;exact lX t
 |int z=>subst r;exact lX t
 |lst xs=>obtain⟨a,vs,rfl,k2,_⟩:=r;exact .inl ⟨lX t,vs,h.seq k2⟩
 |_=>cases t
def Oz(h:EM X ms o m)(ha:AM X ns (e::D) I)(L:PE X (.Call (.Attribute o name l) (e::D) [] B) (MV X.K T (BJ X.K g) (tM X.K ms m) (vc X.K ns I))):EM X (ms++ns) (.Call (.Attribute o name l) (e::D) [] B) (rO T g m I) :=
 PE.imp L λσ H Q M=>by
  obtain⟨F,E,r,k1,k2,j,w⟩:=M;obtain⟨p,e1,j⟩:=Qc j;have c:ud T p=Y:=by
   grind
  rw[aw c]at j;obtain⟨ps,e2,j⟩:=Qc j;refine⟨F,E,p,k1,k2.left,e1,λv H1 zx t J=>⟨Vu t.sub J c,zx,E,ps,t.sub,k2.right.mono t.ext,e2,λvs H2 zw u zy=>?_⟩⟩;exact⟨zw,p,ps,r,u.sub,J.mono u.ext,zy,j,w.go (t.trans u)⟩
def OA(h:EM X ms o m)(ha:AM X ns (e::D) I)(L:PE X (.Call (.Attribute o name l) (e::D) [] B) (MV X.K T (Oy X.K g) (tM X.K ms m) (vc X.K ns I))):EO X (ms++ns) (.Call (.Attribute o name l) (e::D) [] B) (rO T g m I) :=
 PE.imp L λσ H Q M=>by
  obtain⟨F,E,r,k1,k2,j,w⟩:=M;obtain⟨p,e1,j⟩:=Qc j;have c:ud T p=Y:=by
   grind
  rw[aw c]at j;obtain⟨ps,e2,j⟩:=Qc j;refine⟨F,E,p,k1,k2.left,e1,λv H1 zx t J=>⟨Vu t.sub J c,zx,E,ps,t.sub,k2.right.mono t.ext,e2,λvs H2 zw u zy=>?_⟩⟩;exact⟨zw,p,ps,r,u.sub,J.mono u.ext,zy,j,w.go (t.trans u)⟩
def C0(T:String)(g:PV->List PV->Option α)(m:pI):oN->Option α:=λj=>(m j).bind λp=>if ud T p=Y then g p [] else O
def Ju(h:EM X ms o m)(D:PE X (.Call (.Attribute o name l) [] [] B) (NQ X.K T (BJ X.K g) (tM X.K ms m))):EM X ms (.Call (.Attribute o name l) [] [] B) (C0 T g m) :=
 PE.imp D λL H Q E=>by
  obtain⟨F,I,r,k1,k2,j,w⟩:=E;obtain⟨p,e1,j⟩:=Qc j;have c:ud T p=Y:=by
   by_cases c:ud T p=Y
   .exact c
   .rw[aN c]at j;cases j
  rw[aw c]at j;refine⟨F,I,p,k1,k2,e1,λv M J t u=>⟨Vu t.sub u c,J,p,[],r,t.sub,u,.nil,j,w.go t⟩⟩
def M2:PV->List PV->Option PV
 |.int i,[]=>Z (.int (ib i))
 |_,_=>O
def C1:wM X "int.bit_length" (BJ X.K M2):=by
 intro l s B H x xs v us Q I u rs h;obtain⟨F,p,ps,r,h1,h2,h3,j,w⟩:=h;delta M2 at j;split at j
 .cases j;subst h2;obtain⟨t,rfl⟩:=u;subst h3;cases rs;exact call_int_bit_length ⟨.int _,H,I.tok _,⟨_,rfl⟩,w.here h1 (Qp _)⟩
 .cases j
def C2(h:EM X ms o m)(l:bY o "bit_length" X.env (eval o X.env)=eval o X.env:=by rfl)(B:(D.endLine==I.line)=Y:=by rfl):EM X ms (.Call (.Attribute o "bit_length" D) [] [] I) (C0 "int" M2 m) :=
 Ju h (Il PySem.F.plainAttrs_int slot_int_bit_length type_int_bit_length C1 h l B)
def xB:PV->List PV->Option PV
 | .str x,[.lst xs]=>match strs? xs with
  |some ys=>if (ys.map (·.length)).sum+ys.length*x.length<=qy then Z (.str (aL x ys)) else O
  |none=>O
 |_,_=>O
set_option tactic.hygienic true in
def C3:wM X "str.join" (BJ X.K xB):=by
 intro B s zw H x xs v us Q I D rs h;obtain⟨F,p,ps,r,h1,h2,h3,j,w⟩:=h;delta xB at j;split at j
 .split at j
  .rename_i ys l;obtain⟨c,rfl⟩:=Qi j;subst h2;obtain⟨t,rfl⟩:=D;obtain⟨zy,r1,rfl,h3,E⟩:=h3;subst E;obtain⟨a,ws,rfl,k2,J⟩:=h3;obtain⟨u,rfl,L⟩:=Zx rs;cases L;have e2:=SG l;subst e2;have e3:=XY J;subst e3;obtain⟨M,zx,T,_⟩:=I.list (h1.seq k2);refine join_list T.isList (by simpa using YL zx) (aY c (by decide)) λt' k=>⟨.str _,H,I.tok _,⟨_,rfl⟩,w.here h1 (Iy _)⟩
  .cases j
 .cases j
def C4(h:EM X ms o m)(T:AM X ns (e::L) zx)(D:bY o "join" X.env (eval o X.env)=eval o X.env:=by rfl)(M:((bA l (ah (e::L) X.env)).all (λx => !x.1)&&(dF l (cn [] X.env)).all (λx=>x.1.isSome)
   && decide ((e::L).length+([]:List dD).length+(if ([]:List dD).isEmpty then 0 else 1)<30))=Y:=by rfl)(I:(zy.endLine==l.line)=Y:=by rfl)(hs:ah (e::L) X.env=(U,eval e X.env)::ah L X.env:=by rfl)(B:(bA l (ah L X.env)).any (·.1)=U:=by rfl) :
  EM X (ms++ns) (.Call (.Attribute o "join" zy) (e::L) [] l) (rO "str" xB m zx) :=
 Oz h T (Cq fm lI lH C3 h T D M I hs B)
def Vv:V->Option Int->Option Int->Hp->VK->Prop:=λx lo j H Q=>∃z,x = .str z/\z.length<=aV/\Q (.str (cw z lo j)) H
def QjC{h:Heap}{a:Addr}{lo B:Option Int}(hs:h.IsSliceOf a I L .none)(M:IsPart I lo)(D:IsPart L B):∃l u,h.IsSlice a l u O/\l.map (·.1)=lo/\u.map (·.1)=B:=by
 cases M with
 |none =>
  cases D with
  |none=>exact⟨O,O,hs,rfl,rfl⟩
  |int j t=>exact⟨O,Z (j,t),hs,rfl,rfl⟩
 |int i t' =>
  cases D with
  |none=>exact⟨Z (i,t'),O,hs,rfl,rfl⟩
  |int j t=>exact⟨Z (i,t'),Z (j,t),hs,rfl,rfl⟩
def Jv:U0 X Vv:=by
 intro B s L H x v M zy lo T sl Q I D hs E J h;obtain⟨z,rfl,hz,q⟩:=h;obtain⟨t,rfl⟩:=D;obtain⟨l,u,j,rfl,rfl⟩:=QjC hs E J;refine⟨"str",_,PySem.F.slot_str_getitem.lookup,ir _ _ _,wpAny_getItem_str_slice j rfl ?_⟩;exact post_val_or_str ⟨aY (Txt.slice_le z _ _) hz,λt' k=>⟨.str _,H,I.tok _,⟨_,rfl⟩,q⟩⟩
def wa:PV->Option Int->Option Int->Option PV
 |.str z,lo,j=>if z.length<=qy then Z (.str (cw z lo j)) else O
 |_,_,_=>O
def C5{X:Cx}{lo:Option Expr}(he:EM X ms e m)(B:OM X ns lo D)(I:OM X ls L M):EM X (ms++(ns++ls)) (.Subscript e (.Slice lo L O p2) zx) (rL wa m D M):=by
 refine PE.imp (Qir Jv he B I) λσ H Q E=>?_;obtain⟨F,t,r,h1,h2,h3,w⟩:=E;obtain⟨x,e1,h3⟩:=Qc h3;obtain⟨l,e2,h3⟩:=Qc h3;obtain⟨h,e3,h3⟩:=Qc h3;refine⟨F,t,x,h1,h2.left,e1,λvx H1 J j T=>⟨J,t,l,j.sub,h2.right.left.mono j.ext,e2,λH2 zw u=>⟨zw,t,h,u.sub,h2.right.right.mono (j.ext.trans u.ext),e3,λH3 F3 zy=>?_⟩⟩⟩;have g:=j.trans (u.trans zy);cases x with
 |str z =>
  obtain⟨c,rfl⟩:=Qi h3;exact⟨z,T,aY c QO,(w.go g).here g.sub (Iy _)⟩
 |_=>cases h3
end
def OB(N:List Str)(osc scope:gk)(B:List Str)(nt:Nat)(l:List Nat):Bool :=
 (scope.kind==.function)&&scope.names.all (λx=>x.2 != cI)&&scope.names.all (λx=>x.2 != jB.local||scope.names.lookup x.1==Z .local) &&
 scope.names.all (λx=>x.2 != jB.free||(osc.names.lookup x.1==Z .cell||osc.names.lookup x.1==Z .free))&&(B.length==nt+l.length) &&
 (l.zip (B.drop nt)).all (λp=>N[p.1]?==Z p.2&&scope.names.lookup p.2==Z jB.free)
def Qnb(h:OB N osc scope B nt l=Y):qa N osc scope B nt l:=by
 delta OB at h;simp only[aQ,aX,dQ,bne_iff_ne,a9]at h;obtain⟨⟨⟨⟨⟨h1,h2⟩,h3⟩,t⟩,u⟩,D⟩:=h;refine⟨h1,h2,λx j e=>?_,λx j e=>?_,u,D⟩
 .rcases h3 x j with z | z
  .exact absurd e z
  .exact z
 .rcases t x j with z | z
  .exact absurd e z
  .exact z
def GI{X:Cx}(h1:X.N=N)(h2:X.env.scope=osc)(h:OB N osc scope B nt l=Y):qa X.N X.env.scope scope B nt l:=by
 rw[h1,h2];exact Qnb h
def SH(P:bh)(w:cg)(K:ab)(mg:Str->Option Value)(base:Heap)(k:Nat)(x:Str)(n:Nat)(g:List PV->Option PV):Prop :=
 ∃f fd ps,FnOk P w K mg base qh k f fd ps (spM K n g)/\mg x=Z (.ref f)/\b7 K (.ref f)=Y/\ZJ K fd ps []
def Jw(P:bh)(w:cg)(K:ab)(mg:Str->Option Value)(base:Heap)(k:Nat)(x:Str)(n:Nat)(g:List PV->Option (List PV)):Prop :=
 ∃f fd ps,FnOk P w K mg base qh k f fd ps (Ol K n g)/\mg x=Z (.ref f)/\b7 K (.ref f)=Y/\ZJ K fd ps []
section
def Jx(c:SH X.prog X.w X.K X.mg X.base k x n g)(L:∀ps r,g ps=Z r->ps.length=n)(hr:o8 k X.A)(M:Gl X x)(zy:AM X ms (e::l) T)(B:(x=="__debug__")=U:=by decide)(he:ah (e::l) X.env=(U,eval e X.env)::ah l X.env:=by rfl)(D:(bA I (ah l X.env)).any (·.1)=U:=by rfl) :
  EM X ms (.Call (.Name x p) (e::l) [] I) (Qb g T):=by
 obtain⟨f,fd,ps,F,hm,j,t⟩:=c;exact CM F L hr M hm j t zy B he D
def Jy{g:List PV->Option (List PV)}(c:Jw X.prog X.w X.K X.mg X.base k x n g)(L:∀ps r,g ps=Z r->ps.length=n)(hr:o8 k X.A)(M:Gl X x)(zy:AM X ms (e::l) T)(B:(x==("__debug__":Str))=U:=by decide)(he:ah (e::l) X.env=(U,eval e X.env)::ah l X.env:=by rfl)(D:(bA I (ah l X.env)).any (·.1)=U:=by rfl) :
  EO X ms (.Call (.Name x p) (e::l) [] I) (Qb g T):=by
 obtain⟨f,fd,ps,F,hm,j,t⟩:=c;exact CN F L hr M hm j t zy B he D
def QiV(h:EM X ms e m)(hs:ah [e] X.env=(U,eval e X.env)::ah [] X.env:=by rfl):PA X [e] (vc X.K ms (Qa m oK)):=by
 have z:=sh h xg hs;unfold AM at z;rw[bB]at z;exact z
def law_sp{K:ab}{ns:List Int}(h:∀ns:List Int,ns.length<=63->g [.lst (ns.map .int)]=Z (.bl Y))(l:ns.length<=63)(B:qg K H a (ns.map V.int)) :
  spM K 1 g [.ref a] H (λv _=>v = .bl Y) E:=by
 refine⟨rfl,H,[.lst (ns.map .int)],.bl Y,Same.refl _,.cons ?_ .nil,h ns l,λv j t _ r=>?_⟩
 .unfold o3;exact⟨a,ns.map V.int,rfl,B,Vp ns⟩
 .unfold o3 at r;exact r
end
noncomputable def pN(n:Nat):PV := .int n
def mN(n:Nat):pI:=mC (pN n)
def Jz:List PV->Option (List PV)
 |[.lst xs]=>Z (xs.zipIdx.map λx=>.tup [pN x.2,x.1])
 |_=>O
def GJ:List PV->Option (List PV)
 |[.tup xs]=>Z (xs.zipIdx.map λx=>.tup [pN x.2,x.1])
 |_=>O
def xC(m:pI):oN->Option (List PV):=λj=>(m j).bind λp=>match p with
 |.lst xs=>Z xs
 |.tup xs=>Z xs
 |_=>O
def uF:List PV->Option (List PV)
 |[.lst xs]=>Z xs.reverse
 |_=>O
def SI:List PV->Option PV
 |[.lst xs]=>Z (.tup xs.reverse)
 |_=>O
noncomputable def o5{α:Type}[BEq α]:List α->List α
 |[]=>[]
 |x::xs=>x::(o5 xs).filter λy => !(y==x)
def OC:List PV->Option (List PV)
 | [.lst xs]=>match Xp xs with
  |some ns=>if ns.length<1000/\(o5 ns).length<64 then Z ((Xk (o5 ns)).map .int) else O
  |none=>O
 |_=>O
def OD:List PV->Option PV
 | [.lst xs]=>match Xp xs with
  |some ns=>if ns.length<1000 then Z (.int (o5 ns).length) else O
  |none=>O
 |_=>O
def Up(xs:Array Nat):Prop:=xs.toList.Pairwise (· < ·)
def Up.get(h:Up xs){i k:Nat}(l:i<k)(B:xs[i]?=Z x)(hy:xs[k]?=Z y):x<y:=by
 delta Up at h;rw[eF]at h;obtain⟨j,rfl⟩:=cM.mp B;obtain⟨t,rfl⟩:=cM.mp hy;have:=h i k (by simpa using j) (by simpa using t) l;simpa using this
def xD{xs:Array Nat}{j:Nat}(up:Up xs):∀l lo B,B-lo<=l->lo<=B->B<=xs.size->(∀i x,i<lo->xs[i]?=Z x->x<j)->(∀i x,B<=i->xs[i]?=Z x->j<=x) ->
  iQ xs j l lo B<=xs.size/\(∀i x,i<iQ xs j l lo B->xs[i]?=Z x->x<j)/\(∀i x,iQ xs j l lo B<=i->xs[i]?=Z x->j<=x):=by
 intro l;induction l with
 |zero =>
  intro lo B hf J D h1 h2;have:lo=B:=by lia
  subst this;exact⟨D,h1,h2⟩
 |succ l I =>
  intro lo B hf J D h1 h2;unfold iQ;by_cases u:lo<B
  .rw[aw u];have hz:lo<=(lo+B)/2/\(lo+B)/2<B:=by omega
   generalize (lo+B)/2=m at *;have hm:m<xs.size:=by lia
   have E :=aW hm;have hd:xs.getD m j=xs[m]:=by simp[ hm]
   by_cases hc:xs.getD m j<j
   .rw[aw hc];refine I _ B (by lia) (by lia) D (λi x H t=>?_) h2;rcases jz i m with z | z
    .have:=up.get z t E;lia
    .have:i=m:=by lia
     subst this;rw[E]at t;cases t;lia
   .rw[aN hc];refine I lo _ (by lia) (by lia) (by lia) h1 λi x H t=>?_;rcases jz m i with z | z
    .have:=up.get z E t;lia
    .have:i=m:=by lia
     subst this;rw[E]at t;cases t;lia
  .rw[aN u];have:lo=B:=by lia
   subst this;exact⟨D,h1,h2⟩
def SJ(up:Up xs) j:bP xs j<=xs.size/\(∀i x,i<bP xs j->xs[i]?=Z x->x<j)/\(∀i x,bP xs j<=i->xs[i]?=Z x->j<=x) :=
 xD up xs.size 0 xs.size (by lia) (by lia) (au _) (by grind) (by grind)
def xE(up:Up xs)(h:xs[i]?=Z j):bP xs j=i:=by
 obtain⟨h1,h2,h3⟩:=SJ up j;rcases h7 (bP xs j) i with z | z | z
 .have t:=(cM.mp h).1;have l:xs[bP xs j]?=Z xs[bP xs j]:=aW (by lia);have a:=h3 _ _ (au _) l;have b:=up.get z l h;lia
 .exact z
 .have:=h2 i j z h;lia
def QjV(up:Up xs)(h:xs[i]?=Z j):bP xs (j+1)=i+1:=by
 obtain⟨h1,h2,h3⟩:=SJ up (j+1);rcases h7 (bP xs (j+1)) (i+1) with z | z | z
 .have:=h3 i j (by lia) h;lia
 .exact z
 .have l:xs[i+1]?=Z xs[i+1]:=aW (by lia);have a:=h2 _ _ z l;have b:=up.get (cR i) h l;lia
def QjU(up:Up xs):bP xs 0=0:=by
 obtain⟨h1,h2,h3⟩:=SJ up 0;rcases mX (bP xs 0) with z | z
 .exact z
 .have j:xs[0]?=Z xs[0]:=aW (by omega);have:=h2 0 _ z j;lia
theorem QbE xs p (x:α):(iP xs p x).toList=xs.toList.take p++x::xs.toList.drop p:=by
 delta iP;simp[ kG];exact di (by simp)
def QlG(up:Up xs)(B:j∉xs.toList):Up (iP xs (bP xs j) j):=by
 obtain⟨h1,h2,h3⟩:=SJ up j;delta Up;rw[QbE,eM,b0];have lo:∀y∈xs.toList.take (bP xs j),y<j:=λy hy=>by
  obtain⟨i,l,rfl⟩:=List.mem_take_iff_getElem.mp hy;exact h2 i _ (by lia) (by
   rw[cM];exact⟨by lia,by simp⟩)
 have l:∀y∈xs.toList.drop (bP xs j),j<y:=λy hy=>by
  have hm :=eN hy;obtain⟨i,l,rfl⟩:=List.mem_drop_iff_getElem.mp hy;have:=h3 (bP xs j+i) _ (by lia) (by
   rw[cM];exact⟨by simp at l;lia,rfl⟩)
  have ne:j≠xs.toList[bP xs j+i]:=λe=>B (by rw[e];exact hm);simp at ne;simp;lia
 refine⟨lM (jD _ _) up,⟨λy hy=>l y hy,lM (List.drop_sublist _ _) up⟩,λa t b u=>?_⟩;rcases ap.mp u with e | e
 .rw[e];exact lo a t
 .exact fL (lo a t) (l b e)
def Qil{t:dS}(up:Up t.place)(h:∀i,t.slot j≠.live i):j∉t.place.toList:=by
 intro hm;obtain⟨i,u,e⟩:=dH.mp hm;have l:t.place[i]?=Z j:=by
  rw[cM];exact⟨by simpa using u,by simpa using e⟩
 have B:=xE up l;refine h i ?_;delta dS.slot;dsimp only;rw[B,l,aw (by simp)]
def xF:∀l p j d,(∀q,p.dummy=Z q->t.slot q = .dummy)->dS.probe.go t D h l p=Z (.empty j d)->t.slot j = .empty/\∀q,d=Z q->t.slot q = .dummy:=by
 intro l;induction l with
 |zero =>
  intro p j d _ e;cases e
 |succ l u =>
  intro p j d B e;unfold dS.probe.go at e;split at e
  .rename_i hs;cases e;exact⟨hs,B⟩
  .rename_i hs;refine u _ j d (λq hq=>?_) e;have hd:(t.advance { p with dummy:=Z p.j }).dummy=Z p.j:=by
    delta dS.advance;split<;>rfl
   rw[hd]at hq;cases hq;exact hs
  .split at e
   .cases e
   .refine u _ j d (λq hq=>B q ?_) e;have hd:(t.advance p).dummy=p.dummy:=by
     delta dS.advance;split<;>rfl
    rw[hd]at hq;exact hq
set_option tactic.hygienic true in
def Qgl{t:dS}(up:Up t.place)(e:t.freeSlot h=Z (j,b)):j∉t.place.toList:=by
 delta dS.freeSlot at e;split at e
 .rename_i i d hq;obtain⟨h1,h2⟩:=xF _ _ _ _ (λq hq=>by cases hq) hq;cases e;cases d with
  |none =>
   refine Qil up λk z=>?_;rw[show(O.getD i)=i from rfl,h1]at z;cases z
  |some q =>
   refine Qil up λk z=>?_;have h2:=h2 q rfl;rw[show((Z q).getD i)=q from rfl,h2]at z;cases z
 .cases e
def xG n:Up (Array.range n):=by
 unfold Up;rw[Array.toList_range];exact fq
def Qci{α:Type}(f:Nat->Option α) n:(((ai n).filterMap λj=>(f j).map (j,·)).map (·.1)).Pairwise (· < ·):=by
 have key:∀l:List Nat,l.Pairwise (· < ·)->(((l.filterMap λj=>(f j).map (j,·)).map (·.1)).Pairwise (· < ·))/\∀x∈((l.filterMap λj=>(f j).map (j,·)).map (·.1)),x∈l:=by
  intro l;induction l with
  |nil=>intro _;exact⟨by simp,by simp⟩
  |cons y l E =>
   intro u;rw[b0]at u;obtain⟨D,B⟩:=E u.2;cases hf:f y with
   |none =>
    rw[dC (by rw[hf];rfl)];exact⟨D,λx t=>ay _ (B x t)⟩
   |some z =>
    rw[cY (by rw[hf];rfl),aT];refine⟨b0.mpr ⟨λx t=>u.1 x (B x t),D⟩,λx t=>?_⟩;rcases ap.mp t with e | e
    .rw[e];exact a7
    .exact ay _ (B x e)
 exact(key _ fq).1
def qw(L:Bool)(t:dS):Prop:=t.led=L/\Up t.place
def Xn(k:qw L t) n:qw L (t.standIn n):=⟨k.1,xG n⟩
def QdX(k:qw L t) b:qw L { t with plain:=b }:=k
set_option tactic.hygienic true in
def Qdn(k:qw L t) l h x:qw L (layNew t l h x).2.1:=by
 delta layNew;split
 .rename_i j b e;dsimp only;delta dS.orStandIn;have k2:qw L (t.put j).1:=⟨k.1,QlG k.2 (Qgl k.2 e)⟩
  split
  .exact k2
  .exact Xn k2 _
 .exact Xn k _
set_option tactic.hygienic true in
def QdW(k:qw L t) l n:qw L (hG t l n).2.1:=by
 delta hG;split
 .rename_i t' order e;dsimp only;split
  .delta dS.relaid jT at e;cases u:dS.layClean (bT n-1) (l.map (·.1)) with
   |none=>rw[u]at e;cases e
   |some owner =>
    rw[u]at e;cases e;refine⟨k.1,?_⟩;exact Qci (λj=>owner.getD j O) _
  .exact Xn k _
 .exact Xn k _
section
def rB(prog:bh)(w:cg)(L:Bool)(h:Heap)(a:Addr)(M:List Int):Prop :=
 ∃o j l t,h.get? a=Z o/\o.ExactSet/\o.data = .set j l t/\kA (eu prog w) j.toList/\(∀k,k∈M↔∃e∈j.toList,(eu prog w).is k e.2=Y) /\
  j.size<eD/\t.fits j.size=Y/\j.size=M.length/\M.Nodup/\qw L t
def rB.at(x:rB prog w L h a M)(e:∀o,h.get? a=Z o->l.get? a=Z o):rB prog w L l a M:=by
 obtain⟨o,j,u,t,ho,r⟩:=x;exact⟨o,j,u,t,e o ho,r⟩
def pX(M:List Int)(k:Int):List Int:=if k∈M then M else M++[k]
def Vw{M:List Int}(h:M.Nodup)(k:Int):(pX M k).Nodup:=by
 delta pX;split
 .exact h
 .rename_i l;rw[dL];exact⟨h,by simp,λa t b j=>by
   rw[am]at j;subst j;exact λe=>l (e▸t)⟩
def xH{h:Heap}{a:Addr}{o:Obj}{D:Array (Int×Value)}{B:Nat}{t:dS}(ho:h.get? a=Z o)(hd:o.data = .set D B t)(l:Array (Int×Value))(t':dS) :
  (h.update a (jb l t')).get? a=Z { o with data := .set l (B+1) t' }:=by
 have e:=putSet_of l t' hd;have z:=fN (jb l t') ho (by rw[e];rfl);rw[e]at z;exact z
def Qdm{M:List Int}{k:Int}{v:Value}{l B:List (Int×Value)}(D:(eu prog w).is k v=Y)(hm:∀k,k∈M↔∃e∈l,(eu prog w).is k e.2=Y)(I:k∉M)(p:B.Perm (l++[((eu prog w).hash k,v)]))(j:Int) :
  j∈pX M k↔∃e∈B,(eu prog w).is j e.2=Y:=by
 delta pX;rw[aN I,aS,am];constructor
 .rintro(z | rfl)
  .obtain⟨e,he,q⟩:=(hm j).mp z;exact⟨e,p.mem_iff.mpr (c9 _ he),q⟩
  .exact⟨_,p.mem_iff.mpr (bx _ (k9 _)),D⟩
 .rintro⟨e,he,q⟩;rcases aS.mp (p.mem_iff.mp he) with z | z
  .exact .inl ((hm j).mpr ⟨e,z,q⟩)
  .rw[am.mp z]at q;exact .inr ((eu prog w).inj v j k q D)
def OE{L:Bool}{a:Addr}{M:List Int}{k:Int}{tk:Tok}{Q:Bool->aH->Prop}(hS:rB prog w L s.heap a M)(room:M.length+1<eD)(fin:∀b B,bN a s.heap B->rB prog w L B a (pX M k)->Q b { s with heap:=B }):aE (model prog w) A (nN a (.int k tk) ((eu prog w).hash k)) Q E s:=by
 obtain⟨o,T,ep,t,ho,hex,hd,D,hm,hb,hf,hn,zw,az⟩:=hS;have hk:(eu prog w).is k (.int k tk)=Y:=lV _ _ _ _;have I:(jI k tk).scannable=Y:=rfl;have tail:∀(g:Bool->Sem Unit),(∀(b:Bool)(u:aH)(R:Unit->aH->Prop),R () u->aE (model prog w) A (g b) R E u)->∀(l:Array (Int×Value))(tB:dS)(wd:Bool)(R:Option Bool->aH->Prop),
   kA (eu prog w) l.toList->(∀j,j∈pX M k↔∃e∈l.toList,(eu prog w).is j e.2=Y)->l.size<eD->tB.fits l.size=Y->l.size=(pX M k).length->qw L tB ->
   (∀B,bN a s.heap B->rB prog w L B a (pX M k)->R (Z Y) { s with heap:=B }) ->
   aE (model prog w) A (do
    lR a l tB
    if (!wd&&tB.tooFull)=Y then do
      g (hG tB l (b8 l.size)).2.2
      lR a (hG tB l (b8 l.size)).1 (hG tB l (b8 l.size)).2.1
      pure (Z Y)
     else pure (Z Y)) R E s:=by
  intro g hg l tB wd R h1 h2 h3 h4 h5 h6 hR;have zy:=xH ho hd l tB;refine aa (fO ho hd ?_ (d0 h3));have aq:=cK s.heap a (jb l tB);split
  .have p:=relayAll_perm tB l (b8 l.size);have ff:=relayAll_fits tB l (b8 l.size);have kk:=QdW h6 l (b8 l.size);generalize hG tB l (b8 l.size)=rl at p ff kk |-;obtain⟨J,t3,aj⟩:=rl;have sz:J.size=l.size:=by
    have:=p.length_eq;simpa using this
   refine aa (hg _ _ _ (aa (fO zy rfl ?_ (d0 (by show J.size<_;rw[sz];exact h3)))));have aJ:=xH zy rfl J t3;refine af (hR _ (aq.trans (cK _ a _)) ⟨_,J,_,t3,aJ,hex,rfl,h1.perm p,λj=>(h2 j).trans ⟨λ⟨e,he,q⟩=>⟨e,p.mem_iff.mpr he,q⟩,λ⟨e,he,q⟩=>⟨e,p.mem_iff.mp he,q⟩⟩,by rw[sz];exact h3,ff,by rw[sz];exact h5,Vw zw k,kk⟩)
  .exact af (hR _ aq ⟨_,l,_,tB,zy,hex,rfl,h1,h2,h3,h4,h5,Vw zw k,h6⟩)
 delta nN lS;refine b6 (aa (br ho hd hf ?_));dsimp only;rw[byScan_of I hb D,aw rfl];delta setAddByScan;refine aa (aa (fg (aa (kH hk ho hd hf D ?_))));cases hr:kU (λe=>(eu prog w).is k e.2) T.toList with
 |some j =>
  obtain⟨hj,pj,_⟩:=ge.mp hr;have H:k∈M:=(hm k).mpr ⟨_,bu hj,pj⟩;refine af (af ?_);have z:=fin U s.heap (d5 a s.heap) (by
   delta pX;rw[aw H];exact⟨o,T,ep,t,ho,hex,hd,D,hm,hb,hf,hn,zw,az⟩)
  exact z
 |none =>
  have H:k∉M:=λz=>by
   obtain⟨e,he,q⟩:=(hm k).mp z;rw[hX.mp hr e he]at q;cases q
  have gw:∀(b:Bool)(u:aH)(R:Unit->aH->Prop),R () u->aE (model prog w) A (match b with | true=>rule "set.scan.the-table-gave-way" | false=>pure ()) R E u:=λb u R hq=>by
   cases b
   .exact af hq
   .exact fg hq
  have zx:=layNew_perm t T ((eu prog w).hash k) (.int k tk);have fi:=layNew_fits t T ((eu prog w).hash k) (.int k tk);have kp:=Qdn az T ((eu prog w).hash k) (.int k tk);dsimp only;generalize layNew t T ((eu prog w).hash k) (.int k tk)=ly at zx fi kp |-;obtain⟨l,t1,wd,aj⟩:=ly;dsimp only at zx fi kp |-;rw[jG]at zx;have sz:l.size=T.size+1:=by
   have:=zx.length_eq;simpa using this
  have ak:l.size=(pX M k).length:=by
   delta pX;rw[aN H,sz,hn];simp
  refine aa (gw _ _ _ ?_);have done:∀B,bN a s.heap B->rB prog w L B a (pX M k)->aE (model prog w) A (match Z Y with | some av=>pure av | none=>lS a (.int k tk) ((eu prog w).hash k) 99999) Q E { s with heap:=B }:=λB sb z=>af (fin Y B sb z);split
  .refine aa ?_;rw[hashByValue_scannable 8 I];refine af (tail _ gw l _ wd _ ((D.push hk I).perm zx) (Qdm hk hm H zx) (by omega) ?_ ak ?_ done)
   .split
    .exact fi
    .exact nw fi
   .split
    .exact kp
    .exact QdX kp _
  .refine aa (af ?_);rw[aw rfl];exact tail _ gw l _ wd _ ((D.push hk I).perm zx) (Qdm hk hm H zx) (by omega) fi ak kp done
end
def byT(w:cg):Bool:=w.params.followText "set-order"
def sv(val:Nat->Int)(i:Nat):List Int:=((ai i).map val).foldl pX []
def QfA(val:Nat->Int)(i:Nat):sv val (i+1)=pX (sv val i) (val i):=by
 delta sv;rw[gL,bw,ia];rfl
def xI(M:List Int)(k:Int):(pX M k).length<=M.length+1:=by
 delta pX;split
 .lia
 .simp
def xJ(val:Nat->Int):∀i,(sv val i).length<=i:=by
 intro i;induction i with
 |zero =>
  exact au _
 |succ i j =>
  rw[QfA];have:=xI (sv val i) (val i);have:=j;lia
section
theorem QkG{R:kO->aH->Prop}{I:Addr}{zx wr:List Addr}{G:Array ml->Array ml->Prop}{n:Nat}{P:Nat->Value->Prop}{St:Nat->aH->Prop}{L:Bool}(W:WalksS prog w A.in1 I zx wr G n P St)(D:Addr)(out:D∉zx)(val:Nat->Int)(l:∀i v,P i v->∃t,v = .int (val i) t)(B:n+1<eD) :
  ∀(k i:Nat)(s:aH),n-i=k->i<=n->St i s->rB prog w L s.heap D (sv val i) ->
   (∀s',Moved (D::wr) G s s'->rB prog w L s'.heap D (sv val n)->R (.ok (.ret .none)) s')->gv (model prog w) A (.builtin "set.update.loop" ⟨[.ref D,.ref I],[]⟩) R s
 |0,i,s,T,zw,st,u,fin=>by
  obtain rfl:i=n:=by lia
  have E:D∉wr:=λz=>out (W.sub _ z);refine cG dW ?_;rw[hU dU _];show aE _ A.in1 (iu (.ref I) >>= _) _ _ s;refine aa (W.done s _ _ st λs' mv=>?_);show aE _ A.in1 (ret fj) _ _ s';exact af (fin s' (mv.mono λb j=>ay _ j) (u.at λo e=>mv.heap D o E e))
 |k+1,i,s,T,zw,st,u,fin=>by
  have E:D∉wr:=λz=>out (W.sub _ z);refine cG dW ?_;rw[hU dU _];show aE _ A.in1 (iu (.ref I) >>= _) _ _ s;refine aa (W.item i s _ _ (by lia) st λv s' zy H mv=>?_);obtain⟨t,rfl⟩:=l i v zy;show aE _ A.in1 (holding [jI (val i) t] (setAdd D (.int (val i) t)) >>= _) _ _ s';refine aa (b6 ?_);delta setAdd;refine b6 (aa ((eu prog w).pyHash (k:=val i) (lV _ _ _ _) ?_));have sl:=xJ val i;refine OE (s:={ s' with toks:=s'.toks+1 }) (u.at λo e=>mv.heap D o E e) (by lia) λb h' sb z=>?_;rw[<-QfA]at z;refine af ⟨gf dU _,QkG W D out val l B k (i+1) _ (by lia) (by lia) (W.frame _ s' _ _ H (c8 _) λb j o e=>?_) z λJ M z2=>?_⟩
  .exact(sb.2 b λq=>out (q▸j)).trans e
  .refine fin J (Moved.trans W.gtrans ((mv.mono λb j=>ay _ j).then_heap (c8 _) λb o j e=>?_) M) z2;exact(sb.2 b λq=>j (q▸a7)).trans e
def setNew v {Q₁:Value->aH->Prop} (fin:Q₁ (.ref s.heap.objs.size) { s with heap:=s.heap.push { cls := .type "set",dict:=O,data := .set #[] 0 (.fresh 0 0 (!byT w)) } }) :
  gv (model prog w) A (.call (.builtin "set.__new__") ⟨[.type "set",v],[]⟩) (wants Q₁ E) s:=by
 refine lh ?_;refine aa (gZ (PySem.F.newCall_set_1 v) (af ⟨gf PySem.F.plain_set_new _,cG PySem.F.entry_set_new ?_⟩));delta io.«set.__new__» io.Frozenset.newClass;have sub:=kh;obtain⟨j,g,d,tk,os⟩:=s
 wp_walk
 refine cV (af ?_);dsimp only;simp only[newObj];refine aa (wpAny_alloc (af ?_));exact af fin
end
section
def C6{h:Heap}{a:Addr}(e:h.get? a=Z { cls := .type "set",dict:=O,data := .set #[] 0 (.fresh 0 0 (!byT w)) }):rB prog w (!byT w) h a [] :=
 ⟨_,#[],0,_,e,⟨rfl,rfl,rfl⟩,rfl,λe he=>by simp at he,λk=>by simp,by decide,by rfl,rfl,.nil,rfl,by delta Up;simp[l0]⟩
set_option maxHeartbeats 3200000 in
def Qnd{l:Addr}{B:Array Value}{ns:List Int}{Q:Value->aH->Prop}(calm:A.handled=O)(hl:s.heap.IsList l B)(hi:jq B.toList ns)(hb:B.size+1<eD)(fin:∀(D:Heap) (tk:Nat),rB prog w (!byT w) D s.heap.objs.size (sv (λi=>ns.getD i 0) B.size)->(∀b o,b<s.heap.objs.size->s.heap.get? b=Z o->D.get? b=Z o)->Q (.ref s.heap.objs.size) { s with heap:=D,toks:=tk }) :
  aE (model prog w) A (call (.type "set") [.ref l]) Q E s:=by
 obtain⟨c,tl,cv⟩:=bI.mro;have aZ:=bI.made;have cz:=bI.sub;refine lO (lh ?_);show aE _ _ (callAny (.type "set") _) _ _ _;refine af ⟨ke _ (by decide+kernel),cG kZ ?_⟩;rw[dI.under_plain (n8 "set" [.ref l] []) rfl];have h1:=bI.notType;have h2:=bI.canCreate;have cJ:=lq (.ref l);repeat (any_goals (first | assumption | wp_step))
 refine fF (setNew (.ref l) (E:=E) (Q₁:=λobj H=>obj = .ref s.heap.objs.size/\H={ s with heap:=s.heap.push { cls := .type "set",dict:=O,data := .set #[] 0 (.fresh 0 0 (!byT w)) } }) ⟨rfl,rfl⟩) λr H hr=>?_;cases r with
 |error e=>exact hr
 |ok fl =>
  cases fl with
  |ret obj =>
   obtain⟨rfl,rfl⟩:=hr;have T:(s.heap.push { cls := .type "set",dict:=O,data := .set #[] 0 (.fresh 0 0 (!byT w)) }).get? s.heap.objs.size=Z { cls := .type "set",dict:=O,data := .set #[] 0 (.fresh 0 0 (!byT w)) }:=ar _ rfl;have hT:jS { s with heap:=s.heap.push { cls := .type "set",dict:=O,data := .set #[] 0 (.fresh 0 0 (!byT w)) } } (.ref s.heap.objs.size) "set":=⟨_,T,rfl⟩
   have cZ:=bI.init.lookup;have dz:=bI.init.bind (.ref s.heap.objs.size);repeat (any_goals (first | assumption | wp_step))
   refine fF (oC (R:=wants (λr I=>r = .none/\∃D tk,I={ s with heap:=D,toks:=tk }/\rB prog w (!byT w) D s.heap.objs.size (sv (λi=>ns.getD i 0) B.size) /\
     (∀b o,b<s.heap.objs.size->s.heap.get? b=Z o->D.get? b=Z o)) E) bI.init.plain lu (check_set_init_1 hT ?_)) λzw I j=>?_
   .obtain⟨ol,zy,av,nl,az⟩:=hl;obtain⟨cq,J,bv,u⟩:=ol;simp only at av az;subst av;subst az;have aq:(s.heap.push { cls := .type "set",dict:=O,data := .set #[] 0 (.fresh 0 0 (!byT w)) }).get? l=Z { cls := .type "list",dict:=J,data := .seq B nl,slots:=u }:=ae _ zy;have cj:=l7;have ck:=ko;have dq:(Value.type "list"==Value.type "dict")=U:=by decide
    have aj:(s.heap.push { cls := .type "set",dict:=O,data := .set #[] 0 (.fresh 0 0 (!byT w)) }).IsList l B:=⟨_,aq,rfl,nl,rfl⟩
    delta io.«set.__init__» noKeywords lE;generalize bz:lT=PI
    wp_walk
    subst bz;refine gF aj (aa (gE ?_));have ak:l<s.heap.objs.size:=aC zy;have M:A.in1.in1.in1.handled=O:=by simp[calm]
    have bq:l≠(s.heap.push { cls := .type "set",dict:=O,data := .set #[] 0 (.fresh 0 0 (!byT w)) }).objs.size:=by
     rw[bp];exact aM (bQ ak)
    have bj:s.heap.objs.size∉[(s.heap.push { cls := .type "set",dict:=O,data := .set #[] 0 (.fresh 0 0 (!byT w)) }).objs.size,l]:=by
     rw[bp];intro z;rcases ap.mp z with z | z
     .exact absurd z (aM (cR _))
     .rw[am]at z;exact absurd z (fo ak)
    have aJ:∀(i:Nat)(v:Value),B[i]?=Z v->∃t,v = .int ((λi=>ns.getD i 0) i) t:=λi v hv=>jq.int_at hi i v (by rw[cX];exact hv);refine QkG (L := !byT w) ((lZ M _ l bq B).toS) s.heap.objs.size bj (λi=>ns.getD i 0) aJ hb (B.size-0) 0 _ (by omega) (b9 _) ⟨⟨_,ar _ rfl,rfl,rfl⟩,aj.push _⟩ ?Xj ?fin;case Xj=>exact C6 (ae _ T)
    case fin =>
     intro s' hm z;obtain⟨D,g',d',bJ,bZ⟩:=s';obtain rfl:g'=s.gens:=hm.gens;obtain rfl:d'=s.drawn:=hm.drawn;obtain rfl:bZ=s.os:=hm.os;show aE _ _ _ _ _ _;refine af ?_;show aE _ _ (ret fj) _ _ _;refine af ⟨rfl,D,bJ,rfl,z,λb o hb e=>?_⟩;refine hm.heap b o (λq=>?_) (ae _ (ae _ e));rw[bp]at q;rcases ap.mp q with q | q
     .exact absurd q (aM hb)
     .rw[am]at q;exact absurd q (aM (bQ hb))
   .cases zw with
    |error e=>exact j
    |ok zx =>
     cases zx with
     |ret r =>
      obtain⟨rfl,D,tk,rfl,z,k⟩:=j;repeat (any_goals (first | assumption | wp_step))
      exact fin _ _ z k
     |_=>exact j.elim
  |_=>exact hr.elim
end
namespace SF
def xK:Manifest.owners.lookup (String.ofList ['r','o','t','a','r','e','t','i','_','t','e','s'].reverse)=Z Manifest.sig_set_iterator:=by kernel_rfl
def si_next:mV "set_iterator" "__next__" "set_iterator.__next__" := .of (owner := "set_iterator") (n := "__next__") (by kernel_rfl) (by decide+kernel) (by decide+kernel) (by decide+kernel) (by first | exact .inl (by decide+kernel) | exact .inr (by decide+kernel)) (by kernel_rfl)
def si_entry:oA table "set_iterator.__next__"=Z io.«set_iterator.__next__»:=entryFor_of_tree (by kernel_rfl)
def si_args a:argsOk "set_iterator.__next__" ⟨[a],[]⟩:=by
 delta argsOk;rw[signature?_of (n:=['_','_','t','x','e','n','_','_']) (by kernel_rfl) xK];kernel_rfl
def set_iter:oA table "set.__iter__"=Z io.«frozenset.__iter__»:=lY (id' := "frozenset.__iter__") (by kernel_rfl) rfl (by decide+kernel) (by kernel_rfl)
end SF
theorem SK:∀{l:List α}{i:Nat}(h:i<l.length),(l[i]::l.eraseIdx i).Perm l
 |x::l,0,_=>.refl _
 |x::l,i+1,h=>by
  have j:=SK (by simpa using h);exact(List.Perm.swap _ _ _).trans (j.cons x)
def C7 f:∀B k l (out:Array α),l.length=B->(ip.go f B k l out).toList.Perm (out.toList++l):=by
 intro B;induction B with
 |zero =>
  intro k l out h;rw[b4.mp h,bB];exact .refl _
 |succ B j =>
  intro k l out h;have u:0<l.length:=by lia
  have t:f k%l.length<l.length:=bU _ u;unfold ip.go;rw[aG t];refine(j (k+1) _ _ (by rw[i5,aw t];lia)).trans ?_;rw[jG,bX];refine List.Perm.append_left _ ?_;exact SK t
def SN f (xs:Array α):(ip f xs).toList.Perm xs.toList:=by
 have:=C7 f xs.size 0 xs.toList #[] (by simp);simpa[ip] using this
section
def QjN(l:n≠0)(h:∀i d,i<n->Q i { s with drawn:=d }):aE (model prog w) A (choose B n) Q E s:=λj p _=>by
 exact⟨l,by exact h _ _ (bU _ (Nat.pos_of_ne_zero l))⟩
theorem Vx:∀n xs s (Q:List α->aH->Prop),xs.length=n->(∀ys d,ys.Perm xs->Q ys { s with drawn:=d })->aE (model prog w) A (drawOrder n xs) Q E s
 |0,xs,s,Q,j,h=>by
  rw[b4.mp j]at h;exact af (h [] s.drawn (.refl _))
 |n+1,[],s,Q,j,h=>by simp at j
 |n+1,x::xs,s,Q,j,h=>by
  refine aa (QjN (by simp) λi d l=>?_);rw[aG l];refine aa (Vx n _ _ _ (by rw[i5,aw l];lia) λys t p=>?_);exact af (h _ _ ((List.Perm.cons _ p).trans (SK l)))
end
def sY(h:Heap)(I D:Addr)(first:Value)(i n l:Nat):Prop:=∃o,h.get? I=Z o/\o.cls = .type "set_iterator"/\o.data = .fields #[first,cD i,.ref D,cD n,cD l]
def qe(h:Heap)(D:Addr)(l:Array (Int×Value))(B:Nat)(t:dS):Prop:=∃o,h.get? D=Z o/\o.ExactSet/\o.data = .set l B t/\t.fits l.size=Y
section
def sY.typeIs{s:aH}(x:sY s.heap I D first i n l):s.TypeIs (.ref I) "set_iterator":=let ⟨o,ho,hc,_⟩:=x;⟨o,ho,hc⟩
def sY.at(x:sY h I D first i n l)(e:∀o,h.get? I=Z o->B.get? I=Z o):sY B I D first i n l:=let ⟨o,ho,r⟩:=x;⟨o,e _ ho,r⟩
def qe.at(x:qe h D l B t)(e:∀o,h.get? D=Z o->I.get? D=Z o):qe I D l B t:=let ⟨o,ho,r⟩:=x;⟨o,e _ ho,r⟩
def OF{h:Heap}(ho:h.get? I=Z o)(hd:o.data = .fields vs):∃l,(h.update I (Obj.mapFields (·.setIfInBounds j x))).get? I=Z l/\l.cls=o.cls/\l.data = .fields (vs.setIfInBounds j x) :=
 ⟨_,fN _ ho (Obj.isFreed_of_fields (Obj.data_mapFields hd _)),Obj.cls_mapFields ..,Obj.data_mapFields hd _⟩
def QkK{s:aH}{B:Array (Int×Value)}{slot next:Nat}(l:sY s.heap I D (cD slot) i B.size L)(zw:qe s.heap D B L t)(M:∀zy E' R,R (Z (v,next)) s->aE (model prog w) zy (setNext D slot i L) R E' s)(fin:∀zx,sY zx I D (cD next) (i+1) B.size L->bN I s.heap zx->Q (Z v) { s with heap:=zx }):aE (model prog w) A (iu (.ref I)) Q E s:=by
 obtain⟨o,ho,hc,hd⟩:=id l;obtain⟨oS,u,hex,H,hf⟩:=zw;refine aa (gV (cP l.typeIs SF.si_next (bS SF.si_next l.typeIs SF.si_entry ?_ (SF.si_args _))));refine aa (gZ rfl (aa (jv ho hd ?_)));refine aa (fw u H hf ?_);rw[aN (by simp)];refine aa (M _ _ _ ?_);obtain⟨o1,j,c1,T⟩:=OF ho hd;refine aa (fy ho hd (by simp) (aa (fy j T (by simp) ?_)));obtain⟨o2,J,c2,d2⟩:=OF j T;exact af ⟨v,rfl,af (fin _ ⟨o2,J,c2.trans (c1.trans hc),by rw[d2];simp[cD]⟩ ((cK _ I _).trans (cK _ I _)))⟩
def Qij{prog:bh}{w:cg}{A:dI}{E:Value->aH->Prop}{s:aH}(calm:A.handled=O)(fin:∀l,(∀b o,h1.get? b=Z o->l.get? b=Z o)->Q O { s with heap:=l }) :
  aE (model prog w) A.in1 (newExc (.type "StopIteration") [] >>= λe=>(raiseNew e)) (λfin s'=>∃v,fin=Fin.done (Flow.ret v)/\aE (model prog w) A (pure (Z v)) Q E s')
   (λe s'=>aE (model prog w) A (do let b <-isInstance e (.type "StopIteration");if b=Y then pure O else throw e) Q E s') { s with heap:=h1 }:=by
 refine aa ?_;refine aa (cB ?_ (by size_fits));refine aa (gZ (by first | rfl | (rfl)) (cB ?_ (by size_fits)));refine aa (wpAny_handled ?_);rw[calm];refine aa (af (wpAny_throw ?stop));case stop =>
 have ty:∀o (h2:Heap),o.cls = .type "StopIteration"->o.isFreed=U->jS { s with heap:=h2.push o } (.ref h2.objs.size) "StopIteration":=λo h2 hc hf=>⟨o,ar _ hf,hc⟩
 refine aa (fX (ty _ _ rfl rfl) isSubtype_stop ?_);exact af (fin _ λb o e=>ae _ (ae _ e))
def QkL{prog:bh}{w:cg}{A:dI}{E:Value->aH->Prop}{s:aH}{I:Addr}{D:Addr}{zx:Array (Int×Value)}{L:Nat}{t:dS}{i:Nat}{slot:Nat}(calm:A.handled=O)(l:sY s.heap I D (cD slot) i zx.size L)(T:qe s.heap D zx L t)(M:∀zw zy R,R O s->aE (model prog w) zw (setNext D slot i L) R zy s)(fin:∀B,(∀b o,b≠I->s.heap.get? b=Z o->B.get? b=Z o)->Q O { s with heap:=B }):aE (model prog w) A (iu (.ref I)) Q E s:=by
 obtain⟨o,ho,hc,hd⟩:=id l;obtain⟨J,j,hex,u,hf⟩:=T;refine aa (gV (cP l.typeIs SF.si_next (bS SF.si_next l.typeIs SF.si_entry ?_ (SF.si_args _))));refine aa (gZ rfl (aa (jv ho hd ?_)));refine aa (fw j u hf ?_);rw[aN (by simp)];refine aa (M _ _ _ ?_);refine aa (fy ho hd (by simp) ?_);exact Qij calm λB k=>fin B λb o H e=>k b o ((dy _ _ (Ne.symm H)).trans e)
def xM{s:aH}{B:Array (Int×Value)}{Tp zx:Nat}(l:sY s.heap I D (.ref Tp) i B.size zw)(zy:qe s.heap D B zw t)(T:IsTup s.heap Tp ys)(hy:ys[i]?=Z (cD zx))(he:B[zx]?=Z e)(fin:∀L,sY L I D (.ref Tp) (i+1) B.size zw->bN I s.heap L->Q (Z e.2) { s with heap:=L }):aE (model prog w) A (iu (.ref I)) Q E s:=by
 obtain⟨o,ho,hc,hd⟩:=id l;obtain⟨oS,j,hex,u,hf⟩:=zy;refine aa (gV (cP l.typeIs SF.si_next (bS SF.si_next l.typeIs SF.si_entry ?_ (SF.si_args _))));refine aa (gZ rfl (aa (jv ho hd ?_)));refine aa (fw j u hf ?_);rw[aN (by simp)];obtain⟨oT,H,_,nT,J⟩:=T;refine aa (dR H J ?_);dsimp only;rw[dn,hy];refine aa (aa (br j u hf ?_));dsimp only;rw[aN (by simp),dn,he];refine af (aa (fy ho hd (by simp) ?_));obtain⟨o2,M,c2,d2⟩:=OF ho hd;exact af ⟨_,rfl,af (fin _ ⟨o2,M,c2.trans hc,by rw[d2];simp[cD]⟩ (cK _ I _))⟩
def xN{prog:bh}{w:cg}{A:dI}{E:Value->aH->Prop}{s:aH}{I:Addr}{D:Addr}{M:Array (Int×Value)}{zx:Nat}{t:dS}{i:Nat}(calm:A.handled=O)(l:sY s.heap I D (.ref Tp) i M.size zx)(zy:qe s.heap D M zx t)(T:IsTup s.heap Tp ys)(hy:ys[i]?=O)(fin:∀B,(∀b o,b≠I->s.heap.get? b=Z o->B.get? b=Z o)->Q O { s with heap:=B }):aE (model prog w) A (iu (.ref I)) Q E s:=by
 obtain⟨o,ho,hc,hd⟩:=id l;obtain⟨oS,j,hex,u,hf⟩:=zy;obtain⟨oT,H,_,nT,J⟩:=T;refine aa (gV (cP l.typeIs SF.si_next (bS SF.si_next l.typeIs SF.si_entry ?_ (SF.si_args _))));refine aa (gZ rfl (aa (jv ho hd ?_)));refine aa (fw j u hf ?_);rw[aN (by simp)];refine aa (dR H J ?_);dsimp only;rw[dn,hy];obtain⟨o1,L,c1,d1⟩:=OF ho hd;refine aa (fy ho hd (by simp) (aa (fy L d1 (by simp) ?_)));exact Qij calm λB k=>fin B λb o zw e=>k b o ((dy _ _ (Ne.symm zw)).trans ((dy _ _ (Ne.symm zw)).trans e))
def QkY(T:byT w=Y)(M:qe s.heap D zy L t) B I R (h:R (((ip (w.params.setOrder D L) zy)[i]?).map λe=>(e.2,slot)) s):aE (model prog w) B (setNext D slot i L) R I s:=by
 obtain⟨u,j,hex,l,hf⟩:=M;refine aa (br j l hf ?_);refine aa (aa (cV (af ?_)));refine(show aE _ B (if byT w=Y then _ else _) R I s from ?_);rw[aw T,aN (by simp)];refine aa (aa (br j l hf ?_));refine aa (aa (cV (af ?_)));refine(show aE _ B (if byT w=Y then _ else _) _ I s from ?_);rw[aw T];refine aa (cV (af (af ?_)));exact h
def JA(l:Array (Int×Value))(t:dS):Bool := !t.plain&&decide (l.size>1)
def QiA(T:byT w=U)(L:qe s.heap D l M t)(zy:JA l t=U)(zx:t.led=Y) B I R
  (h:R (match l[bP t.place slot]?,t.place[bP t.place slot]? with | some (_,x),Z j=>Z (x,j+1) | _,_=>O) s):aE (model prog w) B (setNext D slot i M) R I s:=by
 obtain⟨H,u,hex,E,hf⟩:=L;refine aa (br u E hf ?_);refine aa (aa (cV (af ?_)));refine(show aE _ B (if byT w=Y then _ else _) R I s from ?_);rw[aN (by rw[T];decide)];refine(show aE _ B (if JA l t=Y then _ else _) R I s from ?_);rw[aN (by rw[zy];decide)];refine(show aE _ B ((if (!t.led && !l.isEmpty)=Y then unsupported "set:maker-not-led" else pure ()) >>= _) R I s from ?_);rw[aN (by rw[zx];simp)];exact aa (af (af h))
end
namespace SF
def si_iter:mV "set_iterator" "__iter__" "set_iterator.__iter__" := .of (owner := "set_iterator") (n := "__iter__") (by kernel_rfl) (by decide+kernel) (by decide+kernel) (by decide+kernel) (by first | exact .inl (by decide+kernel) | exact .inr (by decide+kernel)) (by kernel_rfl)
def si_iargs a:argsOk "set_iterator.__iter__" ⟨[a],[]⟩:=by
 delta argsOk;rw[signature?_of (n:=['_','_','r','e','t','i','_','_']) (by kernel_rfl) xK];kernel_rfl
def si_ientry:oA table "set_iterator.__iter__"=Z io.«dict_keyiterator.__iter__»:=lY (id' := "dict_keyiterator.__iter__") (by kernel_rfl) (by first | rfl | decide+kernel | (delta String.splitOn;simp+decide [String.splitOnAux])) (by decide+kernel) (by kernel_rfl)
end SF
section
def Vy(l:sY s.heap I D first i n B)(h:Q (.ref I) s):aE (model prog w) A (lT (.ref I)) Q E s:=by
 refine wpAny_pyIter_slot l.typeIs SF.si_iter (bS SF.si_iter l.typeIs SF.si_ientry ?_ (SF.si_iargs _));exact af ⟨_,rfl,"set_iterator",_,l.typeIs,SF.si_next.lookup,h⟩
noncomputable def OG(place:Array Nat):Nat->Nat
 |0=>0
 |i+1=>(place[i]?).getD 0+1
def QiP(h:place[i]?=Z j):OG place (i+1)=j+1:=by
 show(place[i]?).getD 0+1=j+1;rw[h];rfl
theorem QfR(up:Up place):∀{i:Nat},i<=place.size->bP place (OG place i)=i
 |0,_=>QjU up
 |i+1,h=>by
  have j :=by omega
  have e :=aW j;rw[QiP e];exact QjV up e
def QlF(T:byT w=Y)(ne:D≠I) L (calm:L.handled=O):Walks prog w L I [I,D] [I] l.size (λi v=>((ip (w.params.setOrder D B) l)[i]?).map (·.2)=Z v) (λi h=>i<=l.size/\sY h I D (cD 0) i l.size B/\qe h D l B t) where
 sub:=λb j=>by simp at j;simp[j]
 frame:=λi h u x k=>⟨x.1,x.2.1.at λo e=>k I (by simp) o e,x.2.2.at λo e=>k D (by simp) o e⟩
 item:=λi s Q E M x fin=>by
  have sz :=by
   have:=(SN (w.params.setOrder D B) l).length_eq;simpa using this
  have H:(ip (w.params.setOrder D B) l)[i]?=Z ((ip (w.params.setOrder D B) l)[i]'(by lia)):=aW (by lia);refine QkK x.2.1 x.2.2 (λL J R h=>QkY T x.2.2 L J R (by rw[H];exact h)) λu z sb=>?_;exact fin _ u s.toks (by rw[H];rfl) ⟨M,z,x.2.2.at λo e=>(sb.2 D ne).trans e⟩ λb o j e=>(sb.2 b λq=>j (by simp[q])).trans e
 done:=λs Q E x fin=>by
  have sz :=by
   have:=(SN (w.params.setOrder D B) l).length_eq;simpa using this
  have H:(ip (w.params.setOrder D B) l)[l.size]?=O:=cA (by lia);exact QkL calm x.2.1 x.2.2 (λL J R h=>QkY T x.2.2 L J R (by rw[H];exact h)) λu k=>fin u s.toks λb o j e=>k b o (λq=>j (by simp[q])) e
 self:=λ_ _ _ _ x h=>Vy x.2.1 h
def QiX(T:byT w=U)(M:JA B t=U)(kp:qw Y t)(l:t.fits B.size=Y)(ne:D≠I) L (calm:L.handled=O):Walks prog w L I [I,D] [I] B.size (λi v=>(B[i]?).map (·.2)=Z v) (λi h=>i<=B.size/\sY h I D (cD (OG t.place i)) i B.size zy/\qe h D B zy t) where
 sub:=λb j=>by simp at j;simp[j]
 frame:=λi h u x k=>⟨x.1,x.2.1.at λo e=>k I (by simp) o e,x.2.2.at λo e=>k D (by simp) o e⟩
 item:=λi s Q E zx x fin=>by
  have ps :=by
   delta mS at l;simp at l;exact l.1
  have H :=aW zx;have zw:t.place[i]?=Z (t.place[i]'(by lia)):=aW (by lia);have j:=QfR kp.2 (i:=i) (by lia);refine QkK (next:=OG t.place (i+1)) x.2.1 x.2.2 (λL J R h=>QiA T x.2.2 M kp.1 L J R (by
   rw[j,H,zw];rw[QiP zw]at h;exact h)) λu z sb=>?_
  exact fin _ u s.toks (by rw[H];rfl) ⟨zx,z,x.2.2.at λo e=>(sb.2 D ne).trans e⟩ λb o j e=>(sb.2 b λq=>j (by simp[q])).trans e
 done:=λs Q E x fin=>by
  have ps :=by
   delta mS at l;simp at l;exact l.1
  have H:B[B.size]?=O:=cA (au _);have j:=QfR kp.2 (i:=B.size) (by lia);exact QkL calm x.2.1 x.2.2 (λL J R h=>QiA T x.2.2 M kp.1 L J R (by rw[j,H];exact h)) λu k=>fin u s.toks λb o j e=>k b o (λq=>j (by simp[q])) e
 self:=λ_ _ _ _ x h=>Vy x.2.1 h
def QiY{ys:List Nat}(hy:ys.Perm (ai l.size))(ne:D≠I)(L:Tp≠I) M (calm:M.handled=O):Walks prog w M I [I,D,Tp] [I] l.size (λi v=>((ys[i]?).bind λj=>l[j]?).map (·.2)=Z v)
  (λi h=>i<=l.size/\sY h I D (.ref Tp) i l.size zy/\qe h D l zy t/\IsTup h Tp (ys.map λ(j:Nat)=>cD j).toArray) where
 sub:=λb u=>by simp at u;simp[u]
 frame:=λi h B x k=>⟨x.1,x.2.1.at λo e=>k I (by simp) o e,x.2.2.1.at λo e=>k D (by simp) o e,let ⟨o,ho,r⟩:=x.2.2.2;⟨o,k Tp (by simp) o ho,r⟩⟩
 item:=λi s Q E T x fin=>by
  have zx:ys.length=l.size:=by rw[hy.length_eq,ao]
  have H:ys[i]?=Z (ys[i]'(by lia)):=aG (by lia);have hm:ys[i]'(by lia)<l.size:=aR.mp (hy.mem_iff.mp (bu (by lia)));have J :=aW hm;refine xM x.2.1 x.2.2.1 x.2.2.2 (by simp[H]) J λB z sb=>?_;exact fin _ B s.toks (by rw[H,bm,J];rfl) ⟨T,z,x.2.2.1.at λo e=>(sb.2 D ne).trans e,let ⟨o,ho,r⟩:=x.2.2.2;⟨o,(sb.2 Tp L).trans ho,r⟩⟩ λb o u e=>(sb.2 b λq=>u (by simp[q])).trans e
 done:=λs Q E x fin=>by
  have zx:ys.length=l.size:=by rw[hy.length_eq,ao]
  exact xN calm x.2.1 x.2.2.1 x.2.2.2 (by simp;lia) λB k=>fin B s.toks λb o u e=>k b o (λq=>u (by simp[q])) e
 self:=λ_ _ _ _ x h=>Vy x.2.1 h
end
section
def qe.typeIs{s:aH}(x:qe s.heap D l B t):s.TypeIs (.ref D) "set":=let ⟨o,ho,hex,_⟩:=x;⟨o,ho,hex.1⟩
def xO{s:aH}{l:Array (Int×Value)}{Q:Value->aH->Prop}(hS:qe s.heap D l L t)(kp:qw (!byT w) t)(zx:l.size<eD)(fin:∀I M d fp (ord:List (Int×Value)) P St,(∀b o,s.heap.get? b=Z o->M.get? b=Z o)->(∀b∈fp,b<M.objs.size)->(∀b∈fp,b=D\/s.heap.objs.size<=b)->I∈fp->s.heap.objs.size<=M.objs.size ->
   ord.Perm l.toList->(∀i v,P i v->(ord[i]?).map (·.2)=Z v)->(∀B ,B.handled=O->Walks prog w B I fp [I] l.size P St)->St 0 M->D≠I->Q (.ref I) { s with heap:=M,drawn:=d }) :
  aE (model prog w) A (lT (.ref D)) Q E s:=by
 obtain⟨oS,u,hex,H,hf⟩:=id hS;refine wpAny_pyIter_slot hS.typeIs lJ (bS lJ hS.typeIs SF.set_iter ?_ (PySem.F.args_set_iter_1 _));delta io.«frozenset.__iter__» io.Frozenset.slot0 slotArgs;simp only[List.isEmpty_nil,jn,et,↓reduceIte,bind_assoc,dO,jw];refine aa (af ?_)
 try dsimp only
 refine aa (af ?_);refine aa (aa (fw u H hf (af ?_)));refine aa (aa (br u H hf ?_));refine aa (aa (cV (af ?_)));refine af ?_;refine(show aE _ A.in1 (if (!byT w&&JA l t)=Y then _ else _) _ E s from ?_);have lt:D<s.heap.objs.size:=aC u;have plain:∀(P:Nat->Value->Prop)(St:Addr->Nat->Heap->Prop)(ord:List (Int×Value)),ord.Perm l.toList->(∀i v,P i v->(ord[i]?).map (·.2)=Z v)->(∀I,D≠I->∀B:dI,B.handled=O->Walks prog w B I [I,D] [I] l.size P (St I)) ->
   (∀M,sY M s.heap.objs.size D (cD 0) 0 l.size L->qe M D l L t->St s.heap.objs.size 0 M) ->
   aE (model prog w) A.in1 (do
    let first <-pure (cD 0)
    let k <-oz D;let it <-newFields "set_iterator" [first,cD 0,d4 D,cD (l.size:Nat),cD (k:Nat)]
    ret it) (λfin s'=>∃v,fin=Fin.done (Flow.ret v)/\∃T' r,s'.TypeIs v T'/\lP (Value.type T') (nS "__next__")=pure (Z r)/\Q v s') E s:=by
  intro P St ord hp hP hW av;refine aa (af (aa ?_));delta oz;refine aa (br u H hf (af ?_));delta newFields;refine aa (cB (af ⟨_,rfl,"set_iterator",_,⟨_,ar _ rfl,rfl⟩,SF.si_next.lookup,?_⟩) (by size_fits));have J:sY (s.heap.push { cls := .type "set_iterator",data := .fields [cD 0,cD 0,d4 D,cD (l.size:Nat),cD (L:Nat)].toArray }) s.heap.objs.size D (cD 0) 0 l.size L:=⟨_,ar _ rfl,rfl,rfl⟩
  refine fin s.heap.objs.size _ s.drawn [s.heap.objs.size,D] ord P (St s.heap.objs.size) (λb o e=>ae _ e) (λb T=>?_) (λb T=>?_) (by simp) (by rw[bp];exact c8 _) hp hP (λB c=>hW _ (aM lt) B c) (av _ J (hS.at λo e=>ae _ e)) (aM lt)
  .rw[bp];rcases ap.mp T with q | q
   .rw[q];exact cR _
   .rw[am.mp q];exact bQ lt
  .rcases ap.mp T with q | q
   .rw[q];exact .inr (au _)
   .exact .inl (am.mp q)
 cases hT:byT w with
 |true =>
  rw[aN (by simp)];exact plain _ (λI i h=>i<=l.size/\sY h I D (cD 0) i l.size L/\qe h D l L t) (ip (w.params.setOrder D L) l).toList (SN _ _) (λi v h=>by rw[cX];exact h) (λI ne B c=>QlF hT ne B c) λM x y=>⟨b9 _,x,y⟩
 |false =>
  rw[hT]at kp;cases hD:JA l t with
  |false =>
   rw[aN (by simp)];exact plain _ (λI i h=>i<=l.size/\sY h I D (cD (OG t.place i:Nat)) i l.size L/\qe h D l L t) l.toList (.refl _) (λi v h=>by rw[cX];exact h) (λI ne B c=>QiX hT hD kp hf ne B c) λM x y=>⟨b9 _,x,y⟩
  |true =>
   rw[aw (by simp)];refine aa (Vx _ _ _ _ (ao) λys d hy=>?_);have hl:ys.length=l.size:=by rw[hy.length_eq,ao]
   have hz:(ys.map λ(j:Nat)=>cD j).toArray.size<=aV:=by
    rw[aP,ag,hl];exact d0 zx
   delta newTuple;refine aa (cB ?_ hz);delta oz;refine aa (aa (br (ae _ u) H hf (af ?_)));delta newFields;refine aa (cB (af ⟨_,rfl,"set_iterator",_,⟨_,ar _ rfl,rfl⟩,SF.si_next.lookup,?_⟩) (by size_fits));have zw:D<(s.heap.push { cls := .type "tuple",data := .seq (ys.map λ(j:Nat)=>cD j).toArray }).objs.size:=by rw[bp];exact bQ lt
   have zy:s.heap.objs.size<(s.heap.push { cls := .type "tuple",data := .seq (ys.map λ(j:Nat)=>cD j).toArray }).objs.size:=by rw[bp];exact cR _
   have J:sY ((s.heap.push { cls := .type "tuple",data := .seq (ys.map λ(j:Nat)=>cD j).toArray }).push { cls := .type "set_iterator",data := .fields [d4 s.heap.objs.size,cD 0,d4 D,cD (l.size:Nat),cD (L:Nat)].toArray })
    (s.heap.push { cls := .type "tuple",data := .seq (ys.map λ(j:Nat)=>cD j).toArray }).objs.size D (.ref s.heap.objs.size) 0 l.size L:=⟨_,ar _ rfl,rfl,rfl⟩
   refine fin _ _ d [_,D,s.heap.objs.size] (ys.map λj=>(l[j]?).getD (0,.none)) _ _ (λb o e=>ae _ (ae _ e)) (λb T=>?_) (λb T=>?_) (by simp) (by rw[bp,bp];exact Nat.le_succ_of_le (c8 _)) ?_ ?_
    (λB c=>QiY (Tp:=s.heap.objs.size) hy (aM zw) (aM zy) B c) ⟨b9 _,J,hS.at λo e=>ae _ (ae _ e),⟨_,ae _ (ar _ rfl),rfl,_,rfl⟩⟩ (aM zw)
   .rw[bp];rcases ap.mp T with q | q
    .rw[q];exact cR _
    .rcases ap.mp q with q | q
     .rw[q];exact bQ zw
     .rw[am.mp q];exact bQ zy
   .rcases ap.mp T with q | q
    .rw[q];exact .inr (cb zy)
    .rcases ap.mp q with q | q
     .exact .inl q
     .rw[am.mp q];exact .inr (au _)
   .have e:l.toList=(ai l.size).map λj=>(l[j]?).getD (0,.none):=by
     apply eO;intro i;rw[aI,cX];by_cases h:i<l.size
     .rw[dr h];simp[h]
     .rw[bg (by rw[ao];lia),cA (by lia)];rfl
    rw[e];exact hy.map _
   .intro i v h;rw[aI];cases hi:ys[i]? with
    |none=>rw[hi]at h;cases h
    |some j =>
     rw[hi,bm]at h;cases hj:l[j]? with
     |none=>rw[hj]at h;cases h
     |some x=>rw[hj]at h;simp[hj];simpa using h
end
section
def Vz{α:Type}[DecidableEq α]:∀{M ks:List α},M.Nodup->(∀x∈M,x∈ks)->ks.length<=M.length->ks.Perm M:=by
 intro M;induction M with
 |nil =>
  intro ks _ _ h;rw[b4.mp (Nat.le_zero.mp h)]
 |cons x M t =>
  intro ks j hs u;rw[bL]at j;have l :=hs x a7;have p:=i4 l;refine p.trans (List.Perm.cons x (t j.2 (λy hy=>?_) ?_))
  .exact(me (λe=>j.1 (by rw[<-e];exact hy))).mpr (hs y (ay _ hy))
  .rw[kT l];simp at u;omega
def xP(h:c=Y)(q:aE M A a R E s):aE M A (if c=Y then a else b) R E s:=by
 rw[aw h];exact q
def xQ{R:Bool->aH->Prop}(T:s.TypeIs (.ref D) "set")(h:R U s):aE (model prog w) A (im (.ref D)) R E s:=by
 delta im;refine aa (lb T PySem.F.slot_set_len.lookup ?_);dsimp only;rw[show splitId "set.__len__"=Z ("set","__len__") from by kernel_rfl];dsimp only;refine aa (fX T kh ?_);simp only[jn,et,gG];refine xP (by kernel_rfl) (aa (i8 T ?_));exact af h
def Qds{A:dI}{s:aH}{L:Array (Int×Value)}{Q:List Value->aH->Prop}(calm:A.handled=O)(hS:qe s.heap D L ep t)(kp:qw (!byT w) t)(B:L.size<eD)(fin:∀h' tk d (ord:List (Int×Value)),(∀b o,s.heap.get? b=Z o->h'.get? b=Z o)->s.heap.objs.size<=h'.objs.size->ord.Perm L.toList->Q (ord.map (·.2)) { s with heap:=h',toks:=tk,drawn:=d }) :
  aE (model prog w) A (collect (.ref D)) Q E s:=by
 obtain⟨oS,av,hex,aJ,hf⟩:=id hS;have lt:D<s.heap.objs.size:=aC av;have zx:s.heap.objs.size≠D:=fo lt;delta collect;refine aa (gE (cG kg ?_));rw[hU PySem.F.plain_proto_collect _];show aE _ A.in1 (newList [] >>= λl=>again (.builtin "list.__iadd__" ⟨[l,.ref D],[]⟩)) _ _ s;refine aa (cB (af ⟨gf iB _,cG k8 ?_⟩));rw[hU iB _];have J:qe (s.heap.push { cls := .type "list",data := .seq ([]:List Value).toArray }) D L ep t:=hS.at λo e=>ae _ e;show aE _ A.in1 (fP (.ref s.heap.objs.size) (.ref D) (.ref s.heap.objs.size)) _ _ _;delta fP;refine aa (i8 (s:={ s with heap:=s.heap.push { cls := .type "list",data := .seq ([]:List Value).toArray } }) J.typeIs ?_);have q1:gt (.ref s.heap.objs.size) (.ref D)=U:=by simp[gt,zx]
 have q2:(Value.type "set"==Value.type "list")=U:=by decide
 have q3:(Value.type "set"==Value.type "tuple")=U:=by decide
 simp only[q1,q2,q3,Bool.or_false,et,gG];refine aa (xO (s:={ s with heap:=s.heap.push { cls := .type "list",data := .seq ([]:List Value).toArray } }) J kp B λI h2 d fp ord P St k2 aZ H hI bv hp hP hW st az=>?_);refine aa (b6 ?_);have aq:qe h2 D L ep t:=J.at λo e=>k2 D o e;refine xQ (s:={ s with heap:=h2,drawn:=d }) aq.typeIs ?_;refine xP (by kernel_rfl) (aa (fg (aa ?_)));have L0:h2.get? s.heap.objs.size=Z { cls := .type "list",data := .seq ([]:List Value).toArray }:=k2 _ _ (ar _ rfl);show aE _ A.in1 (updateSeq s.heap.objs.size (·.push .none) >>= λ_=>updateSeq s.heap.objs.size (·.pop)) _ _ _;refine aa (jh L0 rfl ?_);have L1:=fN (cT (·.push fj)) L0 rfl;refine jh L1 rfl ?_;have L2:=fN (cT (·.pop)) L1 rfl;have T:s.heap.objs.size∉fp:=λz=>by
  rcases H _ z with q | q
  .exact zx q
  .have q:(s.heap.push { cls := .type "list",data := .seq ([]:List Value).toArray }).objs.size<=s.heap.objs.size:=q;rw[bp]at q;exact absurd q (Nat.not_succ_le_self _)
 have W:=(hW A.in1 (by simp[calm]):Walks prog w A.in1 I fp [I] L.size P St)
 have zw:∀b o,b≠s.heap.objs.size->h2.get? b=Z o->((h2.update s.heap.objs.size (cT (·.push fj))).update s.heap.objs.size (cT (·.pop))).get? b=Z o:=λb o hb e =>
  (dy _ _ (Ne.symm hb)).trans ((dy _ _ (Ne.symm hb)).trans e)
 refine af ⟨gf kD _,oB W.toS (d0 B) _ T _ L.size 0 _ _ _ rfl (b9 _) (W.frame 0 _ _ st λb hb o e=>zw b o (λq=>T (q▸hb)) e) L2 (ItemsOf.nil P) λs' M c hm zy u=>?_⟩;refine aa (lN zy (af ?_));obtain⟨h3,g3,d3,aj,ak⟩:=s';obtain rfl:g3=s.gens:=hm.gens;obtain rfl:d3=d:=hm.drawn;obtain rfl:ak=s.os:=hm.os;have ol:ord.length=L.size:=by
  have:=hp.length_eq;simpa using this
 have e:M.toList=ord.map (·.2):=by
  apply eO;intro j;rw[aI,cX];by_cases hj:j<L.size
  .have g:M[j]?=Z (M[j]'(by rw[u.1];exact hj)):=aW _;rw[g];exact(hP j _ (u.2 j _ g)).symm
  .rw[cA (by rw[u.1];lia),bg (by lia)];rfl
 rw[e];refine fin h3 aj d3 ord (λb o q=>?_) ?_ hp
 .have bl:b<s.heap.objs.size:=aC q;refine hm.heap b o (λz=>?_) (zw b o (aM bl) (k2 b o (ae _ q)));rcases ap.mp z with z | z
  .exact absurd z (aM bl)
  .rw[am.mp z]at bl;rcases H I hI with y | y
   .exact az y.symm
   .have y:(s.heap.push { cls := .type "list",data := .seq ([]:List Value).toArray }).objs.size<=I:=y;rw[bp]at y;exact absurd (aF bl (jA y)) (cp _)
 .exact cb (aC zy)
def Qjf{M:List Int}{Q:Value->aH->Prop}(calm:A.handled=O)(hS:rB prog w (!byT w) s.heap D M)(ak:M.length<64)(fin:∀(L:Addr) (zx:Heap) (tk:Nat) (d:Drawn) (out:Array Value) (ns:List Int) (e:Nat),(∀b o,s.heap.get? b=Z o->zx.get? b=Z o)->s.heap.objs.size<=L->zx.get? L=Z (c6 "list" out e)->jq out.toList ns->ns.Perm M->ns.Pairwise (· <= ·) ->
   Q (.ref L) { s with heap:=zx,toks:=tk,drawn:=d }):aE (model prog w) A (call (.builtin "sorted") [.ref D]) Q E s:=by
 obtain⟨o,es,ep,t,ho,hex,hd,T,hm,hb,hf,hn,zw,zy⟩:=hS;have hC:qe s.heap D es ep t:=⟨o,ho,hex,hd,hf⟩
 refine ga nO mw my (mz _) ?_;delta io.«sorted»;refine aa (m:=checkCount "sorted" 1 1 _) (af ?_);refine aa (Qds calm hC zy hb λh1 tk d ord k1 av J=>?_);have ol:ord.length=M.length:=by
  have:=J.length_eq;rw[this,<-hn];simp
 have key:∀e∈ord,∃k u,e.2=jI k u:=λe he=>by
  obtain⟨⟨k,hk,_⟩,_⟩:=T e (J.mem_iff.mp he);obtain⟨u,H⟩:=Value.isInt_shape (k:=k) (v:=e.2) hk;exact⟨k,u,H⟩
 obtain⟨ks,I,az⟩:∃ks:List Int,jq (ord.map (·.2)) ks/\∀k,k∈ks↔∃e∈ord,(eu prog w).is k e.2=Y:=by
  clear J ol;induction ord with
  |nil=>exact⟨[],.nil,λk=>by simp⟩
  |cons x l ih =>
   obtain⟨ks,h1,h2⟩:=ih λe he=>key e (ay _ he);obtain⟨k,u,H⟩:=key x a7;refine⟨k::ks,?_,λj=>?_⟩
   .rw[aT,H];exact .cons k u h1
   .rw[ap,h2 j];constructor
    .rintro(rfl|⟨e,he,q⟩)
     .exact⟨x,a7,by rw[H];exact lV _ _ _ _⟩
     .exact⟨e,ay _ he,q⟩
    .rintro⟨e,he,q⟩;rcases ap.mp he with z | z
     .subst z;rw[H]at q;exact .inl ((eu prog w).inj (.int k u) j k q (lV _ _ _ _))
     .exact .inr ⟨e,z,q⟩
 have kl:ks.length=M.length:=by
  have:=jq.length I;rw[ag]at this;lia
 have kM:ks.Perm M:=by
  have sub:∀x∈M,x∈ks:=λx hx=>(az x).mpr (by
   obtain⟨e,he,q⟩:=(hm x).mp hx;exact⟨e,J.mem_iff.mpr he,q⟩)
  exact Vz zw sub (by lia)
 refine aa (gU ?_);have vl:(ord.map (·.2)).length<64:=by rw[ag];lia
 have B:(h1.push (c6 "list" (ord.map (·.2)).toArray 0)).get? h1.objs.size=Z (c6 "list" (ord.map (·.2)).toArray 0):=ar _ rfl;refine aa (b6 (bS kB ⟨_,B,rfl⟩ jZ (list_sort_tree B I vl λout aq a1 a2 a3=>⟨_,rfl,?_⟩) (kC _)));obtain⟨e,aj⟩:=sortedHeap_at (out:=out) B;refine af ⟨_,rfl,fin h1.objs.size _ tk d out aq e (λb o q=>?_) av aj a1 (a2.trans kM) a3⟩;have q1:=k1 b o q;have bl:=aC q1;rw[sortedHeap_old (aM bl) (by rw[bp];exact bQ bl)];exact ae _ q1
end
def xR{M:List Int}{k x:Int}:x∈pX M k↔x∈M\/x=k:=by
 delta pX;split
 .rename_i h;exact⟨.inl,λq=>q.elim id λe=>e▸h⟩
 .simp
def QmO:∀(l M:List Int),M.Nodup->(l.foldl pX M).Nodup/\∀x,x∈l.foldl pX M↔x∈M\/x∈l:=by
 intro l;induction l with
 |nil =>
  intro M h;exact⟨h,λx=>by simp⟩
 |cons y l j =>
  intro M h;obtain⟨a,b⟩:=j (pX M y) (Vw h y);refine⟨a,λx=>?_⟩;rw[gN,b x,xR,ap];exact⟨λq=>q.elim (λq=>q.elim .inl λe=>.inr (.inl e)) λq=>.inr (.inr q),λq=>q.elim (λq=>.inl (.inl q)) λq=>q.elim (λe=>.inl (.inr e)) .inr⟩
theorem QfI{y:Int}:∀{xs:List Int},y∈o5 xs↔y∈xs
 |[]=>by simp[o5]
 |x::xs=>by
  unfold o5;rw[ap,ap,aK,QfI (xs:=xs)];by_cases h:y=x<;>simp[h]
def QhD:∀xs:List Int,(o5 xs).Nodup:=by
 intro xs;induction xs with
 |nil =>
  simp[o5]
 |cons x xs j =>
  unfold o5;rw[bL];exact⟨by simp[aK],eS _ (j)⟩
def QlU(ns:List Int):(sv (λi=>ns.getD i 0) ns.length).Perm (o5 ns):=by
 have e:(ai ns.length).map (λi=>ns.getD i 0)=ns:=by
  apply eO;intro i;rw[aI];by_cases h:i<ns.length
  .rw[dr h];simp[h]
  .rw[bg (by rw[ao];lia),bg (by lia)];rfl
 delta sv;rw[e];obtain⟨a,b⟩:=QmO ns [] .nil;exact(fJ a (QhD ns)).mpr λx=>by rw[b x,QfI];simp
section
def _root_.L2.Inv.drawn(I:Inv X l B H s) d:Inv X l B H { s with drawn:=d }:=⟨I.ok,I.os,I.bare,I.base,I.loc,I.cell,I.free,I.freeC,I.pin,I.hok,I.len⟩
def M3(X:Cx)(p:Addr)(M:List Int):HO := .ext λh=>rB X.prog X.w (!byT X.w) h p M
def QfU(hc:X.calm=Y):Yy X (.type "set") (λvs H Q=>∃(l:Addr)(ns:List Int),vs=[.ref l]/\qg X.K H l (ns.map V.int)/\ns.length<1000/\∀p M,H p=O->M.Perm (o5 ns)->Q (.ref p) (pf H p (M3 X p M))):=by
 intro B s T H vs us Q I rs h;obtain⟨l,ns,rfl,E,zw,q⟩:=h;obtain⟨u,rfl,J⟩:=Zx rs;cases J;obtain⟨t,D,L,_⟩:=I.list E;have j:=D.length;rw[ag]at j;refine Qnd (I.ok.hd hc) L.isList (by simpa using UZ D) (by simp only[aP];show t.length+1<4096;lia) λzy tk z k=>?_;have e:t.toArray.size=ns.length:=by simp only[aP];exact j.symm
 rw[e]at z;refine⟨.ref s.heap.objs.size,pf H s.heap.objs.size (M3 X s.heap.objs.size _),I.laid (t':=tk) (λb o q=>k b o (aC q) q) (au _) ⟨z,?_,λh1 h2 zx k1=>zx.at k1⟩,rfl,q _ _ I.fresh (QlU ns)⟩;obtain⟨o,_,_,_,ho,_⟩:=z;exact⟨o,ho⟩
def Qdw(hc:X.calm=Y):Yy X (.builtin "sorted") (λvs H Q=>∃(D:Addr)(M:List Int),vs=[.ref D]/\H D=Z (M3 X D M)/\M.length<64/\∀(l:Addr)(ns:List Int),H l=O->ns.Perm M->ns.Pairwise (· <= ·)->Q (.ref l) (pf H l (.lst (ns.map V.int)))):=by
 intro t s σ H vs us Q I rs h;obtain⟨D,M,rfl,J,j,q⟩:=h;obtain⟨u,rfl,zx⟩:=Zx rs;cases zx;obtain⟨z,_,_⟩:=I.hok D _ J;refine Qjf (I.ok.hd hc) z j λL h' tk d out ns e k B at' T E hs=>?_;have zw:H L=O:=I.hok.fresh B;have zy:=U6 T;refine⟨.ref L,pf H L (.lst (ns.map V.int)),(I.laid (t':=tk) (o := .lst (ns.map V.int)) k B ⟨?_,out.toList,e,zy,by simpa[c6] using at'⟩).drawn d,rfl,q L ns zw E hs⟩;rw[ag,E.length_eq];exact cb (fL j (by decide))
def Qgt:Yy X (.builtin "len") (λvs H Q=>∃(D:Addr)(M:List Int),vs=[.ref D]/\H D=Z (M3 X D M)/\Q (.int M.length) H):=by
 intro j s zy H vs us Q I rs h;obtain⟨D,M,rfl,l,q⟩:=h;obtain⟨u,rfl,B⟩:=Zx rs;cases B;obtain⟨z,_,_⟩:=I.hok D _ l;obtain⟨o,E,ep,t,ho,hex,hd,J,hm,L,hf,zx,T,zw⟩:=z;refine call_len_set ho hex hd hf (by have:E.size<4096:=L;lia) ⟨.int M.length,H,I.tok _,⟨_,by rw[zx]⟩,q⟩
def Qdk{K:ab}{F:Hp}{xs:List PV}{ns:List Int}{vs:List V}(h:Xp xs=Z ns)(r:oP K F xs vs):vs=ns.map V.int:=by
 have e:=Vn h;subst e;exact Vo r
set_option tactic.hygienic true in
def uG(hc:X.calm=Y)(hg:Gl X "set")(hm:X.mg "set"=O)(T:Gl X "sorted")(zw:X.mg "sorted"=O)(ha:AM X ms [a] ma)(hs:ah [a] X.env=(U,eval a X.env)::ah [] X.env:=by rfl)(zy:(bA B (ah [] X.env)).any (·.1)=U:=by rfl)(D:ah [.Call (.Name "set" p1) [a] [] B] X.env=(U,eval (.Call (.Name "set" p1) [a] [] B) X.env)::ah [] X.env:=by rfl)(I:(bA L (ah [] X.env)).any (·.1)=U:=by rfl) :
  EO X ms (.Call (.Name "sorted" p2) [.Call (.Name "set" p1) [a] [] B] [] L) (Qb OC ma) :=
 PE.imp (Xe (Qdw hc) T zw (by kernel_rfl) (YD (Zr (QfU hc) hg hm (by kernel_rfl) ha (by decide) (by decide) hs zy) Ce D) (by decide) (by decide) D I) λσ H Q ⟨F,γ,r,k1,k2,j,w⟩=>by
  obtain⟨qs,e1,j⟩:=Qc j;refine⟨F,γ,qs,k1,k2,e1,λvs H1 F1 J E=>?_⟩;unfold OC at j;split at j
  .rename_i xs;unfold oP at E;obtain⟨v,t,rfl,E,qt⟩:=E;unfold oP at qt;subst qt;unfold o3 at E;obtain⟨l,us,rfl,sl,rl⟩:=E;split at j
   .rename_i ns av;obtain⟨⟨c1,c2⟩,rfl⟩:=Qi j;have e2:=Qdk av rl;subst e2;refine⟨l,ns,rfl,J.sub.seq sl,c1,λp M hp hM=>?_⟩;refine⟨p,M,rfl,Qf,by rw[hM.length_eq];exact c2,λl2 ks u hk hs=>?_⟩;have ek:ks=Xk (o5 ns):=Vr (hk.trans hM) hs;subst ek;have zx:pd F1 H1 F1 (pf H1 p (M3 X p M)) := .side J.sub hp;have g3:=zx.trans (.side (o := .lst ((Xk (o5 ns)).map V.int)) zx.sub u);exact w l2 _ _ F1 (J.trans g3) (J.same.free (zx.same.free u)) (zx.sub.free u) Qf (Vp _)
   .cases j
  .cases j
set_option tactic.hygienic true in
def vF(hc:X.calm=Y)(hg:Gl X "set")(hm:X.mg "set"=O)(zx:Gl X "len")(T:X.mg "len"=O)(ha:AM X ms [a] ma)(hs:ah [a] X.env=(U,eval a X.env)::ah [] X.env:=by rfl)(zw:(bA B (ah [] X.env)).any (·.1)=U:=by rfl)(D:ah [.Call (.Name "set" p1) [a] [] B] X.env=(U,eval (.Call (.Name "set" p1) [a] [] B) X.env)::ah [] X.env:=by rfl)(I:(bA L (ah [] X.env)).any (·.1)=U:=by rfl) :
  EM X ms (.Call (.Name "len" p2) [.Call (.Name "set" p1) [a] [] B] [] L) (Qb OD ma) :=
 PE.imp (Xe Qgt zx T kj (YD (Zr (QfU hc) hg hm (by kernel_rfl) ha (by decide) (by decide) hs zw) Ce D) (by decide) (by decide) D I) λσ H Q ⟨F,γ,r,k1,k2,j,w⟩=>by
  obtain⟨qs,e1,j⟩:=Qc j;refine⟨F,γ,qs,k1,k2,e1,λvs H1 E J u=>?_⟩;unfold OD at j;split at j
  .rename_i xs;unfold oP at u;obtain⟨v,t,rfl,u,qt⟩:=u;unfold oP at qt;subst qt;unfold o3 at u;obtain⟨l,us,rfl,sl,rl⟩:=u;split at j
   .rename_i ns zy;obtain⟨c1,rfl⟩:=Qi j;have e2:=Qdk zy rl;subst e2;refine⟨l,ns,rfl,J.sub.seq sl,c1,λp M hp hM=>?_⟩;refine⟨p,M,rfl,Qf,?_⟩;have g2:pd E H1 E (pf H1 p (M3 X p M)) := .side J.sub hp;rw[hM.length_eq];exact w _ _ E (J.trans g2) (Qp _)
   .cases j
  .cases j
end
end L2.PM
namespace L2.PM
open PySem PySem.Spec PyProof.Rows
open PySem.AutoSeq1 (wpAny_loadPart')
section
def Qjs(l:s.heap.IsTupleIter it I i)(L:s.heap.IsTuple I B)(M:B[i]?=Z x)(fin:∀D,D.IsTupleIter it I (i+1)->bN it s.heap D->Q x { s with heap:=D }):aE (model prog w) A (dE (.ref it)) Q E s:=by
 obtain⟨o,ho,hc,hd⟩:=id l;obtain⟨zy,t,_,nt,j⟩:=L;refine aa (cP l.typeIs eI (bS eI l.typeIs js ?_ (jo _)));refine(show aE _ _ (field (.ref it) 0 >>= _) _ _ s from aa (ew ho hd rfl ?_));refine(?_);refine(aa (ew ho hd rfl ?_));refine(aa (dR t j ?_));simp only[dn,M];obtain⟨o2,u,H,J⟩:=OF ho hd;exact aa (fy ho hd (by simp) (af ⟨x,rfl,af (fin _ ⟨o2,u,H.trans hc,by rw[J];simp[cD]⟩ (cK ..))⟩))
def OH{prog:bh}{w:cg}{A:dI}{E:Value->aH->Prop}{s:aH}{Q:PySem.Fin->aH->Prop}(calm:A.handled=O)(fin:∀l e,(∀b o,h1.get? b=Z o->l.get? b=Z o)->(∃o,l.get? e=Z o/\o.cls = .type "StopIteration")->E (.ref e) { s with heap:=l }) :
  aE (model prog w) A.in1 (newExc (.type "StopIteration") [] >>= λe=>(raiseNew e)) Q E { s with heap:=h1 }:=by
 refine aa ?_;refine aa (cB ?_ (by size_fits));refine aa (gZ (by first | rfl | (rfl)) (cB ?_ (by size_fits)));refine aa (wpAny_handled ?_);rw[calm];refine aa (af (wpAny_throw ?_));exact fin _ _ (λb o e=>ae _ (ae _ e)) ⟨_,ar _ rfl,rfl⟩
def YK{prog:bh}{w:cg}{A:dI}{E:Value->aH->Prop}{s:aH}(calm:A.handled=O)(l:s.heap.IsTupleIter it I i)(L:s.heap.IsTuple I D)(M:D[i]?=O)(fin:∀B e,Heap.ExtBut it s.heap B->(∃o,B.get? e=Z o/\o.cls = .type "StopIteration")->E (.ref e) { s with heap:=B }):aE (model prog w) A (dE (.ref it)) Q E s:=by
 obtain⟨o,ho,hc,hd⟩:=id l;obtain⟨H,t,_,nt,j⟩:=L;refine aa (cP l.typeIs eI (bS eI l.typeIs js ?_ (jo _)));refine(show aE _ _ (field (.ref it) 0 >>= _) _ _ s from aa (ew ho hd rfl ?_));refine(?_);refine(aa (ew ho hd rfl ?_));refine(aa (dR t j ?_));simp only[dn,M];refine aa (fg (aa (fy ho hd (by simp) ?_)));refine(OH calm λB e k z=>fin B e (λb o u q=>k b o ((dy _ _ (Ne.symm u)).trans q)) z)
def OI(calm:A.handled=O) it B (ne:B≠it) l:jm prog w A it [it,B] l.size (λi v=>l[i]?=Z v) (λi h=>h.IsTupleIter it B i/\h.IsTuple B l) where
 live:=λ_ _ st=>let ⟨⟨o,ho,_⟩,_⟩:=st;⟨o,ho⟩
 frame:=λ_ _ _ st k=>⟨st.1.at λo e=>k it (by simp) o e,st.2.at λo e=>k B (by simp) o e⟩
 item:=λi s Q E j st fin=>Qjs st.1 st.2 (aW j) λt z sb=>fin _ t s.toks (aW j) ⟨z,st.2.at λo e=>(sb.2 B ne).trans e⟩ sb
 done:=λs Q E st fin=>YK calm st.1 st.2 (cA (au _)) fin
set_option tactic.hygienic true in
set_option maxHeartbeats 1000000 in
def QhF(l:Addr)(B:Array Value)(n:Nat)(D:Option Addr)(sl:Array (Option Value)) :
  Meets (io.«enumerate.__new__» ⟨[.type "enumerate",.ref l],[]⟩) (λ_ R s=>s.heap.get? l=Z { cls := .type "tuple",dict:=D,data := .seq B n,slots:=sl } /\
   R (.ok (.ret (.ref (s.heap.push { cls := .type "tuple_iterator",data := .fields #[.ref l,.int 0 0] }).objs.size)))
    {s with heap:=(s.heap.push { cls := .type "tuple_iterator",data := .fields #[.ref l,.int 0 0] }).push { cls := .type "enumerate",data := .fields #[.none,.bool U,.ref s.heap.objs.size,cD 0,.none,.none] } }) :=
 .of_wp λprog w A R s h=>by
  obtain⟨t,g,d,tk,os⟩:=s;obtain⟨j,h⟩:=h;have sub:=sub_enumerate;have T:kz (oG ⟨t,g,d,tk,os⟩) l B:=⟨_,j,rfl,n,rfl⟩
  wp_walk using cF j
  refine wpAny_stack_any λst=>af ?_;split
  .rename_i c _ _ _ _ _;cases (c==Value.type "enumerate")
   .wp_walk using cF j,eG T
    exact⟨_,rfl,h⟩
   .wp_walk using cF j,eG T
    exact⟨_,rfl,h⟩
  .wp_walk using cF j,eG T
   exact⟨_,rfl,h⟩
def QjQ(T:s.heap.IsTuple l B)(fin:∀D,IsEnum D (s.heap.objs.size+1) s.heap.objs.size 0 .none->D.IsTupleIter s.heap.objs.size l 0->(∀b o,s.heap.get? b=Z o->D.get? b=Z o)->Q (.ref (s.heap.objs.size+1)) { s with heap:=D }) :
  aE (model prog w) A (call (.type "enumerate") [.ref l]) Q E s:=by
 obtain⟨⟨c,t,j,sl⟩,u,hc,n,hd⟩:=T;obtain rfl:c = .type "tuple":=hc;obtain rfl:j = .seq B n:=hd;refine nR PySem.F.called_enumerate (by decide) (PySem.F.typeCall_enumerate_1 _) (PySem.F.newCall_enumerate_1 _) (λobj=>kr obj _) PySem.F.entry_enumerate_new (QhF l B n t sl) ⟨u,?_⟩;have z:(s.heap.push { cls := .type "tuple_iterator",data := .fields #[.ref l,.int 0 0] }).objs.size=s.heap.objs.size+1:=bp ..;have he:IsEnum ((s.heap.push { cls := .type "tuple_iterator",data := .fields #[.ref l,.int 0 0] }).push { cls := .type "enumerate",data := .fields #[.none,.bool U,.ref s.heap.objs.size,cD 0,.none,.none] }) (s.heap.objs.size+1) s.heap.objs.size 0 .none:=by
  rw[<-z];exact ar _ rfl
 refine(?_);rw[z];exact⟨⟨_,he,rfl⟩,fin _ he ⟨_,ae _ (ar _ rfl),rfl,rfl⟩ λb o q=>ae _ (ae _ q)⟩
end
end L2.PM
namespace L2.PM
open PySem PySem.Spec PyProof.Rows
section
def _root_.L2.Inv.turnsNew{ch:List Addr}(I:Inv X l M H s)(hf:∀b∈ch,qp X l H b)(k:∀b u,b∉ch->s.heap.get? b=Z u->D.get? b=Z u)(L:s.heap.objs.size<=T)(new:ObjOk X.prog X.w (pf H T o) D T o):Inv X l M (pf H T o) { s with heap:=D,toks:=tk }:=by
 have j :=I.hok.fresh L;have lt:∀b u,s.heap.get? b=Z u->b≠T:=λb u e z=>absurd (aF (aC e) (z▸L)) (cp _);have t:∀b u,H b=Z u->b∉ch:=λb u e z=>by rw[(hf b z).1]at e;cases e
 refine I.call' rfl ⟨λb u e _ _ hc=>k b u hc e,λb u e _ _ hc=>⟨u.slots,k b u hc e⟩,λb u e n _=>by rw[Qh (lt b u e)];exact n,λb u e hc=>⟨u,k b u hc e⟩,λb xs e=>by rw[Qh (Qg e j)];exact e,
  λb u v e=>by rw[Qh (Qg e j)];exact e,λb ps e=>⟨#[],by rw[Qh (Qg e j)];simpa using e⟩⟩ (λb u e=>?_) I.bare λb B=>?_
 .by_cases B:b=T
  .subst B;rw[Qf]at e;cases e;exact new
  .rw[Qh B]at e;refine(I.hok b u e).stay (λc v hc q=>k c v ?_ q) (λc q=>by rw[Qh (Qg q j)];exact q) λc xs q=>by rw[Qh (Qg q j)];exact q
   rcases hc with z | z
   .rw[z];exact t b u e
   .exact t c _ z
 .obtain⟨_,E,_,J,zy,zx⟩:=hf b B;exact⟨J,E,zy,zx⟩
def _root_.L2.Inv.turns{ch:List Addr}(I:Inv X l B H s)(hf:∀b∈ch,qp X l H b)(k:∀b u,b∉ch->s.heap.get? b=Z u->D.get? b=Z u):Inv X l B H { s with heap:=D,toks:=tk }:=by
 have j:∀b u,H b=Z u->b∉ch:=λb u e z=>by rw[(hf b z).1]at e;cases e
 refine I.call' rfl ⟨by grind,λb u e _ _ hc=>⟨u.slots,k b u hc e⟩,λb u e n _=>n,by grind,λb xs e=>e,λb u v e=>e,λb ps e=>⟨#[],by grind⟩⟩ (λb u e=>?_) I.bare λb t=>?_
 .refine(I.hok b u e).stay (λc v hc q=>k c v ?_ q) (λc q=>q) λc xs q=>q;grind
 .obtain⟨_,E,_,J,L,M⟩:=hf b t;grind
end
def SO(l:Hp->List V->Prop):It :=
 ⟨λi H=>∃xs x,l H xs/\xs[i]?=Z x,λi H v j=>∃T x,v = .ref T/\H T=O/\j=pf H T (.tup [.int i,x])/\∀xs,l H xs->xs[i]?=Z x,λi H=>∃xs,l H xs/\xs.length<=i⟩
def Qjd{P:bh}{w:cg}{K:ab}{M:List Expr}{kk:Nat}{pp:Pos} a it e (zy:e≠it):rW P w K (.Tuple M kk pp) (SO λH xs=>qz K H a xs) [e,it] e (λi h=>(∃l,IsEnum h e it i l)/\h.IsTupleIter it a i) where
 mem:=by simp
 obj:=λi h st b L=>by
  obtain⟨⟨l,he⟩,o,ho,c,d⟩:=st;rcases ap.mp L with z | z
  .subst z;exact⟨_,he,λv q=>by
    cases q⟩
  .rw[am.mp z];exact⟨o,ho,λv q=>by rw[d]at q;cases q⟩
 keep:=λi h h' st k=>by
  obtain⟨⟨l,he⟩,t⟩:=st;exact⟨⟨l,k e (by simp) _ he⟩,t.at λo q=>k it (by simp) o q⟩
 item:=by
  intro X hP hw hK hc i zx s σ H E I hf st hg;subst hP hw hK;obtain⟨xs,x,hq,hx⟩:=hg;obtain⟨zw,rv,p,hz⟩:=I.tuple hq;obtain⟨u,hu,ru⟩:=rv.get hx;have hi :=(ax.mp hu).1;have az:a≠it:=λz=>by
   obtain⟨⟨oi,aq,ci,_⟩⟩:=(⟨st.2⟩:Nonempty _)
   obtain⟨oa,B,ca,_⟩:=p;rw[z,aq]at B;cases B;rw[ci]at ca;exact absurd ca (by decide)
  have aj:e∉[it,a]:=λz=>by
   rcases ap.mp z with z | z
   .exact zy z
   .have z:=am.mp z;obtain⟨⟨l,he⟩,_⟩:=st;obtain⟨oa,B,ca,_⟩:=p;rw[<-z,he]at B;cases B;exact absurd (show Value.type "enumerate"=Value.type "tuple" from ca) (by decide)
  have W:=WalksT.enumerateD (OI (prog:=X.prog) (w:=X.w) (A:=X.A.in1) (by have:=I.ok.hd hc;simp[this]) it a az zw.toArray) e zy aj (by simp);refine W.item i s _ _ (by simpa using hi) ⟨st.1,st.2,p⟩ λT aJ h1 tk hp hT tup mid k1=>?_;obtain⟨tt,y,hy,rfl⟩:=hp;have hy :=by
   rw[fC,hu]at hy;exact(bi hy).symm
  subst hy;have J:=W.apart i T h1 mid;refine⟨_,rfl,W.go M kk pp i T { s with heap:=h1,toks:=tk } _ _ mid λh2 t k2=>?_⟩;have hn:H T=O:=I.hok.fresh hT;have av:h2.IsTuple T #[.int i tt,y]:=tup.at λo q=>k2 T o J q;have I2:Inv X zx σ (pf H T (.tup [.int i,x])) { s with heap:=h2,toks:=tk }:=I.turnsNew (ch:=[e,it]) (o := .tup [.int i,x]) hf (λb o L q=>k2 b o L (k1 b o L q)) hT ⟨by show 2<=aV;decide,[.int i tt,y],.cons ⟨tt,rfl⟩ (.cons ru .nil),YR.pair av⟩;refine⟨.ref T,_,I2,rfl,⟨T,x,rfl,hn,rfl,λys hy=>by rw[I.tuple_inj hy hq];exact hx⟩,⟨t.1,t.2.1⟩,λb L=>?_⟩;have ak:b≠T:=λz=>J (z▸L);rw[Qh ak];exact(hf b L).1
 done:=by
  intro X hP hw hK hc i zx s σ H E I hf st hg;subst hP hw hK;obtain⟨xs,hq,hx⟩:=hg;obtain⟨zw,rv,p,hz⟩:=I.tuple hq;have aZ:=rv.length;obtain⟨⟨l,he⟩,t⟩:=st;have D:jm X.prog X.w X.A.in1 it [it,a] i (λ_ _=>True) (λj h=>j=i/\h.IsTupleIter it a i/\h.IsTuple a zw.toArray) :=
   {live:=λ_ _ q=>let ⟨_,⟨o,ho,_⟩,_⟩:=q;⟨o,ho⟩
    frame:=λ_ _ _ q k=>⟨q.1,q.2.1.at λo z=>k it (by simp) o z,q.2.2.at λo z=>k a (by simp) o z⟩
    item:=λj s Q E hj q _=>absurd q.1 (aM hj)
    done:=λs Q E q fin=>YK (by have:=I.ok.hd hc;simp[this]) q.2.1 q.2.2 (by simp;lia) fin }
  exact nJ D he ⟨rfl,t,p⟩ λh1 k=>⟨rfl,I.turns hf λb o L q=>k b o (λz=>L (by simp[z])) q⟩
 self:=λA i s Q E st h=>iN st.1.choose_spec h
section
def JB(h:EM X ms e m):IM X ms B e (xC m):=by
 intro j s l H R I q;obtain⟨F,t,xs,h1,h2,h3,w⟩:=q;obtain⟨p,e1,e2⟩:=Qc h3;cases p with
 |lst ys =>
  cases e2;exact xo h j s l H R I ⟨F,t,_,h1,h2,by unfold pG;rw[e1];rfl,w⟩
 |tup ys =>
  cases e2;exact xp h j s l H R I ⟨F,t,_,h1,h2,by unfold qO;rw[e1];rfl,w⟩
 |_=>cases e2
def xS(T:Gl X "enumerate")(hm:X.mg "enumerate"=O)(zw:PA X [a] zy)(hs:ah [a] X.env=[(U,eval a X.env)]:=by rfl) :
  PI X (.Tuple zx kk pp) (.Call (.Name "enumerate" p) [a] [] L) (λM H R=>zy M H λvs B=>∃l,vs=[.ref l]/\(∃xs,qz X.K B l xs)/\R (SO λH xs=>qz X.K H l xs) B):=by
 intro j s M H R I h;refine Call_ (B0 I T hm (show cW "enumerate"=Z (.type "enumerate") from by kernel_rfl) (cH (pA (zw L j s M H _ I h) λus s1 J=>?_) hs rfl));obtain⟨vs,B,D,r1,q1⟩:=J;obtain⟨l,rfl,⟨xs,hq⟩,q⟩:=q1;obtain⟨u,rfl,ru⟩:=Zx r1;cases ru;obtain⟨av,rv,pt,hz⟩:=D.tuple hq;refine QjQ (pt) λh' he E k=>?_;refine iN he ?_;refine⟨s1.heap.objs.size+1,[s1.heap.objs.size+1,s1.heap.objs.size],_,_,B,rfl,D.kept k,Qjd l s1.heap.objs.size (s1.heap.objs.size+1) (nW _),⟨⟨_,he⟩,E⟩,λb hb=>?_,q⟩;have t:s1.heap.objs.size<=b:=by
  rcases ap.mp hb with z | z
  .rw[z];exact c8 _
  .rw[am.mp z];exact au _
 exact D.fpOk t (D.hok.fresh t)
def xT(hc:X.calm=Y)(zx:Gl X "enumerate")(hm:X.mg "enumerate"=O)(zw:AM X ms [a] zy)(hs:ah [a] X.env=[(U,eval a X.env)]:=by rfl) :
  IM X ms (.Tuple D kk pp) (.Call (.Name "enumerate" p) [a] [] av) (Qb GJ zy) :=
 PI.imp (xS zx hm zw hs) λσ H R zz=>by
  obtain⟨F,γ,xs,k1,k2,j,w⟩:=zz;obtain⟨qs,e1,j⟩:=Qc j;refine⟨F,γ,qs,k1,k2,e1,λvs H1 F1 E u=>?_⟩;delta GJ at j;split at j
  .cases j;obtain⟨v,t,rfl,u,qt⟩:=u;subst qt;obtain⟨l,us,rfl,sl,B⟩:=u;refine⟨l,rfl,⟨us,E.sub.seqT sl⟩,w _ _ _ E ?_⟩;refine⟨λi I J e2=>?_,λi I v H3 J e2 y=>?_,λI e2=>?_⟩
   .have hv:i<us.length:=by
     rw[B.length];simpa using J
    exact⟨us,us[i],e2.seqT sl,by simp[hv]⟩
   .obtain⟨T,x,rfl,L,rfl,y⟩:=y;obtain⟨p,e3,e4⟩:=B.back (y us (e2.seqT sl));refine⟨.tup [pN i,p],?_,λF2 x1 M=>?_⟩
    .simp[e3]
    .refine⟨pf F2 T (.tup [.int i,x]),.laid M L,?_⟩;exact⟨T,[.int i,x],rfl,.of Qf,.cons (Qp _) (.cons (e4.mono (x1.trans (pd.laid M L).ext)) .nil)⟩
   .exact⟨us,e2.seqT sl,by rw[B.length];simp⟩
  .cases j
end
namespace SF
def ri_nolen:lP (.type "list_reverseiterator") "__len__"=pure O:=by rw[typeLookup_type,builtinLookup_eq_fast];kernel_rfl
def ri_hint:lP (.type "list_reverseiterator") "__length_hint__"=pure (Z (.builtin "list_reverseiterator.__length_hint__")):=by kernel_rfl
def ri_self:isSubtype (.type "list_reverseiterator") (.type "list_reverseiterator")=pure Y:=by kernel_rfl
end SF
section
def SQ(h:c=U)(q:aE M A b R E s):aE M A (if c=Y then a else b) R E s:=by
 rw[aN (by rw[h];decide)];exact q
def xU(T:s.TypeIs (.ref I) "list_reverseiterator")(h:R U s):aE (model prog w) A (im (.ref I)) R E s:=by
 refine aa (lb T SF.ri_nolen ?_);refine SQ (by kernel_rfl) (SQ (by kernel_rfl) (aa (lb T SF.ri_hint ?_)));refine aa (fX T SF.ri_self ?_);simp only[jn,et,gG];refine xP (by kernel_rfl) (SQ (by kernel_rfl) ?_);exact af h
def QjG{I l:Addr}{B:Array Value}{R:kO->aH->Prop}(calm:A.handled=O)(L:s.heap.IsRevIter I l (B.size-1))(hl:s.heap.IsList l B)(zy:l≠I)(zx:B.size<=aV) D T M
  (hD:s.heap.get? D=Z { cls := .type "list",data := .seq #[] M }) (dl:D≠l)
  (fin:∀h' tk zw,(∀b o,b≠D->b≠I->s.heap.get? b=Z o->h'.get? b=Z o)->h'.get? D=Z { cls := .type "list",dict:=O,data := .seq B.reverse zw,slots := #[] }->R (.ok (.ret T)) { s with heap:=h',toks:=tk }) :
  aE (model prog w) A.in1 (fP (.ref D) (.ref I) T) (λfin s'=>match fin with | .done f=>R (.ok f) s' | .again zw=>zw.quiet=Y/\gv (model prog w) A zw R s') (λe s'=>R (.error e) s') s:=by
 have E:D≠I:=λz=>by
  obtain⟨o,ho,c,_⟩:=L;rw[z,ho]at hD;cases hD;exact absurd (show Value.type "list"=Value.type "list_reverseiterator" from c) (by decide)
 refine aa (i8 L.typeIs ?_);have q1:gt (.ref D) (.ref I)=U:=by simp[gt,E]
 simp only[q1,    gG];refine aa (ju L (aa (b6 (xU L.typeIs ?_))));refine SQ (by kernel_rfl) ?_;have W:=Walks.listRev (prog:=prog) (w:=w) (A:=A.in1) (by simp[calm]) I l zy B;have J:D∉[I,l]:=λz=>by
  rcases ap.mp z with z | z
  .exact E z
  .exact dl (am.mp z)
 refine af ⟨gf kD _,oB W.toS zx D J T B.size 0 _ #[] M rfl (b9 _) ⟨b9 _,by simpa using L,hl⟩ hD (ItemsOf.nil _) λs' u c hm H t=>?_⟩;obtain⟨h3,g3,d3,av,az⟩:=s';obtain rfl:g3=s.gens:=hm.gens;obtain rfl:d3=s.drawn:=hm.drawn;obtain rfl:az=s.os:=hm.os;have e:u=B.reverse:=by
  apply Array.ext_getElem?;intro j;by_cases hj:j<B.size
  .have g:u[j]?=Z (u[j]'(by rw[t.1];exact hj)):=aW _;have:=t.2 j _ g;rw[g,<-this];simp[hj]
  .rw[cA (by rw[t.1];lia),cA (by simp;lia)]
 rw[e]at H;exact fin h3 av c (λb o b1 b2 q=>hm.heap b o (λz=>by
  rcases ap.mp z with z | z
  .exact b1 z
  .exact b2 (am.mp z)) q) H
end
section
def SS(X:Cx)(I l:Addr)(n:Nat):HO := .ext λh=>(I∈X.ex\/X.s₀.heap.objs.size<=I)/\h.IsRevIter I l (n-1)
def Qne:Yy X (.type "reversed") (λvs H Q=>∃l xs,vs=[.ref l]/\qg X.K H l xs/\∀p,H p=O->Q (.ref p) (pf H p (SS X p l xs.length))):=by
 intro j s M H vs us Q I rs h;obtain⟨l,xs,rfl,D,q⟩:=h;obtain⟨u,rfl,E⟩:=Zx rs;cases E;obtain⟨t,J,L,_⟩:=I.list D;refine call_reversed_list L.isList ?_;have e:(t.toArray.size)=xs.length:=by rw[aP,J.length]
 have z:(s.heap.push (revObj l (t.toArray.size-1))).IsRevIter s.heap.objs.size l (xs.length-1):=⟨_,ar _ rfl,rfl,by rw[<-e];rfl⟩
 refine⟨.ref s.heap.objs.size,_,I.laid (o:=SS X s.heap.objs.size l xs.length) (λb o q=>ae _ q) (au _) ⟨⟨.inr I.sz,z⟩,⟨_,ar _ rfl⟩,λh1 h2 B k1=>⟨B.1,B.2.at k1⟩⟩,rfl,q _ I.fresh⟩
end
end L2.PM
namespace L2.PM
open PySem PySem.Spec PyProof.Rows
open PySem.AutoSeq1 (wpAny_loadPart')
section
def QhU{I l:Addr}{D:Array Value}{Q:List Value->aH->Prop}(calm:A.handled=O)(M:s.heap.IsRevIter I l (D.size-1))(T:s.heap.IsList l D)(zy:l≠I)(L:D.size<=aV)(fin:∀B tk,(∀b o,b≠I->s.heap.get? b=Z o->B.get? b=Z o)->s.heap.objs.size<=B.objs.size->Q D.reverse.toList { s with heap:=B,toks:=tk }):aE (model prog w) A (collect (.ref I)) Q E s:=by
 refine aa (gE (cG kg ?_));refine(aa (cB (af ⟨gf iB _,cG k8 ?_⟩)));have nl:s.heap.objs.size≠l:=λz=>by
  obtain⟨o,ho,_⟩:=T;exact absurd (aC ho) (by rw[z];exact cp _)
 have t:(s.heap.push { cls := .type "list",data := .seq [].toArray }).get? s.heap.objs.size=Z { cls := .type "list",data := .seq #[] 0 }:=ar _ rfl;refine(?_);have go:∀(r:kO)(s':aH),(∃B tk j,r = .ok (.ret (.ref s.heap.objs.size))/\s'={ s with heap:=B,toks:=tk }/\(∀b o,b≠s.heap.objs.size->b≠I->(s.heap.push { cls := .type "list",data := .seq [].toArray }).get? b=Z o->B.get? b=Z o) /\
   B.get? s.heap.objs.size=Z { cls := .type "list",dict:=O,data := .seq D.reverse j,slots := #[] })->(match r with
    | .ok (.ret v)=>aE (model prog w) A (match v with
     | .ref a=>do
      match (<-load a).data with
       |.seq xs _=>pure xs.toList
       |_=>unsupported "internal:collect"
     |_=>unsupported "internal:collect") Q E s'
    |.ok _=>False
    |.error e=>E e s'):=by
  rintro r s' ⟨B,tk,j,rfl,rfl,k,z⟩;refine(aa (lN z (af ?_)));exact fin B tk (λb o H q=>k b o (aM (aC q)) H (ae _ q)) (cb (aC z))
 refine fh (QjG (R:=λr s'=>∃B tk j,r = .ok (.ret (.ref s.heap.objs.size))/\s'={ s with heap:=B,toks:=tk }/\(∀b o,b≠s.heap.objs.size->b≠I->(s.heap.push { cls := .type "list",data := .seq [].toArray }).get? b=Z o->B.get? b=Z o) /\
   B.get? s.heap.objs.size=Z { cls := .type "list",dict:=O,data := .seq D.reverse j,slots := #[] })
  calm (M.at λo q=>ae _ q) (T.at λo q=>ae _ q) zy L _ _ 0 t nl λB tk j k z=>⟨B,tk,j,rfl,rfl,k,z⟩) (λf s' h=>?_) λe s' h=>?_
 .cases f with
  |done f=>exact go _ _ h
  |again j=>exact⟨h.1,fF h.2 λr u hr=>go r u hr⟩
 .exact go _ _ h
set_option maxHeartbeats 2000000 in
def Qgj(I l:Addr)(B:Array Value)(o:Obj)(D:B.size<=aV)(M:l≠I) :
  Meets (io.«tuple.__new__» ⟨[.type "tuple",.ref I],[]⟩) (λA R s=>A.handled=O/\s.heap.get? I=Z o/\s.heap.IsRevIter I l ((B.size:Int)-1)/\s.heap.IsList l B /\
   ∀(L:Heap)(tk:Nat),(∀b u,b≠I->s.heap.get? b=Z u->L.get? b=Z u)->s.heap.objs.size<=L.objs.size->R (.ok (.ret (.ref L.objs.size))) { s with heap:=L.push { cls := .type "tuple",data := .seq B.reverse },toks:=tk }) :=
 .of_wp λprog w A R s h=>by
  obtain⟨calm,J,t,zx,h⟩:=h;obtain⟨T,g,d,j,os⟩:=s;have H:=sub_tuple_self;have E:=init_tuple_lookup;have zw:=madeHere_tuple;have zy:jS ⟨T,g,d,j,os⟩ (.ref I) "list_reverseiterator":=t.typeIs
  wp_walk using cF J,i8 zy,QhU (A:=A.in1) (by simp[calm]) t zx M D
  intro L tk k sz;refine(show aE _ _ (nq B.reverse.toList.toArray >>= λv=>ret v) _ _ _ from ?_);delta nq;refine aa (cB ?_ (by show B.reverse.toList.toArray.size<=aV;simpa using D));refine af ⟨_,rfl,?_⟩;rw[show B.reverse.toList.toArray=B.reverse from Array.toArray_toList];exact h L tk k sz
def QlL(calm:A.handled=O)(M:s.heap.IsRevIter I l (B.size-1))(T:s.heap.IsList l B)(zy:l≠I)(D:B.size<=aV)(fin:∀(L:Heap) tk,(∀b u,b≠I->s.heap.get? b=Z u->L.get? b=Z u)->s.heap.objs.size<=L.objs.size->Q (.ref L.objs.size) { s with heap:=L.push { cls := .type "tuple",data := .seq B.reverse },toks:=tk }) :
  aE (model prog w) A (call (.type "tuple") [.ref I]) Q E s:=by
 obtain⟨o,ho,_⟩:=id M;exact nR PySem.F.called_tuple (by decide) (PySem.F.typeCall_tuple_1 _) (PySem.F.newCall_tuple_1 _) (λobj=>kr obj _) PySem.F.entry_tuple_new (Qgj I l B o D zy) ⟨by simp[calm],ho,M,T,λL tk k sz=>⟨⟨_,ar _ rfl,rfl⟩,fin L tk k sz⟩⟩
end
section
def Qgr(hc:X.calm=Y):Yy X (.type "tuple") (λvs H Q=>∃J l xs,vs=[.ref J]/\H J=Z (SS X J l xs.length)/\qg X.K H l xs /\
  ∀p D,H p=O->D p=Z (.tup xs.reverse)->(∀b,b≠J->b≠p->D b=H b)->Q (.ref p) D):=by
 intro zx s σ H vs us Q I rs h;obtain⟨J,l,xs,rfl,t,hl,q⟩:=h;obtain⟨u,rfl,ru⟩:=Zx rs;cases ru;obtain⟨E,rv,pl,hz⟩:=I.list hl;obtain⟨⟨own,z⟩,_,_⟩:=I.hok J _ t;have len:xs.length=E.toArray.size:=by rw[aP,rv.length]
 rw[len]at z;have av:l≠J:=λy=>by
  obtain⟨o,ho,cc,_⟩:=z;obtain⟨o2,T,zw,_⟩:=pl.isList;rw[y,ho]at T;cases T;rw[cc]at zw;exact absurd zw (by decide)
 refine QlL (I.ok.hd hc) z pl.isList av (by rw[<-len];exact hz) λL tk k sz=>?_;have lt:∀b u,s.heap.get? b=Z u->b≠L.objs.size:=λb u e=>aM (aF (aC e) sz);have hn :=I.hok.fresh sz;have az:J≠L.objs.size:=λy=>by rw[y,hn]at t;cases t
 let D :=λb=>if b=J then O else pf H L.objs.size (.tup xs.reverse) b;have e2:∀b,b≠J->D b=pf H L.objs.size (.tup xs.reverse) b:=λb j=>aN j;have e3 :=λb j hp=>(e2 b j).trans (Qh hp);have ep :=(e2 _ (Ne.symm az)).trans Qf;have B:∀b u,H b=Z u->(∀M,u≠.ext M)->D b=Z u:=λb u e hu=>by
  rw[e3 b (λy=>by rw[y,t]at e;exact hu _ (bi e).symm) (Qg e hn)];exact e
 have k2:∀b u,b≠J->s.heap.get? b=Z u->(L.push { cls := .type "tuple",data := .seq E.toArray.reverse }).get? b=Z u:=λb u j e=>ae _ (k b u j e);have I2:Inv X zx σ D { s with heap:=L.push { cls := .type "tuple",data := .seq E.toArray.reverse },toks:=tk }:=by
  refine I.call' (ch:=[J]) rfl ⟨λb u e _ _ j=>k2 b u (by simpa using j) e,λb u e _ _ j=>⟨u.slots,k2 b u (by simpa using j) e⟩,λb u e n j=>by rw[e3 b (by simpa using j) (lt b u e)];exact n,λb u e j=>⟨u,k2 b u (by simpa using j) e⟩,
   λb ys e=>B b _ e (λM y=>by cases y),λb u v e=>B b _ e (λM y=>by cases y),λb ps e=>⟨#[],by rw[B b _ e (λM y=>by cases y)];simp⟩⟩ (λb u e=>?_) I.bare λb j=>?_
  .by_cases j:b=L.objs.size
   .subst j;rw[ep]at e;cases e;exact⟨by rw[fQ];exact hz,E.reverse,rv.reverse,⟨_,ar _ rfl,rfl,.inl rfl,0,by simp⟩⟩
   .have zy:b≠J:=λy=>by
     rw[y]at e;have:D J=O:=aw rfl;rw[this]at e;cases e
    rw[e3 b zy j]at e;refine(I.hok b u e).stay (λc v aq qq=>k2 c v ?_ qq) (λc qq=>B c _ qq (λM y=>by cases y)) λc ys qq=>B c _ qq (λM y=>by cases y);rcases aq with y | y
    .rw[y];exact zy
    .intro y2;rw[y2,t]at y;cases y
  .rw[am.mp j];refine⟨own,λy=>?_,λx c e y=>?_,λp hp y=>?_⟩
   .rw[y,I.free]at t;cases t
   .rw[<-y,I.freeC x c e]at t;cases t
   .rw[<-y,(I.pin p hp).2.1]at t;cases t
 exact⟨.ref L.objs.size,D,I2,rfl,q _ _ hn ep e3⟩
def vG(hc:X.calm=Y)(hg:Gl X "reversed")(hm:X.mg "reversed"=O)(zw:Gl X "tuple")(zy:X.mg "tuple"=O)(ha:AM X ms [a] ma)(hs:ah [a] X.env=(U,eval a X.env)::ah [] X.env:=by rfl)(av:(bA B (ah [] X.env)).any (·.1)=U:=by rfl)(I:ah [.Call (.Name "reversed" p1) [a] [] B] X.env=(U,eval (.Call (.Name "reversed" p1) [a] [] B) X.env)::ah [] X.env:=by rfl)(L:(bA M (ah [] X.env)).any (·.1)=U:=by rfl) :
  EM X ms (.Call (.Name "tuple" p2) [.Call (.Name "reversed" p1) [a] [] B] [] M) (Qb SI ma) :=
 PE.imp (Zr (Qgr hc) zw zy (by kernel_rfl) (YD (Zr Qne hg hm (by kernel_rfl) ha (by decide) (by decide) hs av) Ce I) (by decide) (by decide) I L) λσ H Q zz=>by
  obtain⟨F,γ,r,k1,k2,E,w⟩:=zz;obtain⟨qs,e1,E⟩:=Qc E;refine⟨F,γ,qs,k1,k2,e1,λvs J D zx q1=>?_⟩;delta SI at E;split at E
  .cases E;obtain⟨v,t,rfl,q1,qt⟩:=q1;subst qt;obtain⟨l,us,rfl,sl,rl⟩:=q1;refine⟨l,us,rfl,zx.sub.seq sl,λp hp=>?_⟩;have g2:pd D J D (pf J p (SS X p l us.length)) := .side zx.sub hp;refine⟨p,l,us,rfl,Qf,g2.sub.seq sl,λp2 H2 u az pb=>?_⟩;have np:p2≠p:=λy=>by rw[y,Qf]at u;cases u
   have j:J p2=O:=by rw[Qh np]at u;exact u
   have hF:D p2=O:=zx.sub.free j;have same:∀b o,J b=Z o->H2 b=Z o:=λb o e=>by
    rw[pb b (Qg e hp) (Qg e j),Qh (Qg e hp)];exact e
   have ext:Same D (pf D p2 (.tup us.reverse)):=λb o e=>by rw[Qh (Qg e hF)];exact e
   have g3:pd D J (pf D p2 (.tup us.reverse)) H2:=⟨ext,λb o e=>by
    by_cases T:b=p2
    .subst T;rw[Qf]at e;rw[az];exact e
    .rw[Qh T]at e;exact same b o (zx.sub b o e),same,λb o e=>by
    by_cases T:b=p2
    .subst T;exact .inr j
    .rw[Qh T]at e;exact .inl e⟩
   refine w _ _ _ (zx.trans g3) ?_;exact⟨p2,us.reverse,rfl,.of Qf,(rl.mono ext).reverse⟩
  .cases E
def Itv(K:ab)(l:Addr)(n:Nat):It :=
 ⟨λi H=>∃xs x,qg K H l xs/\xs.length=n/\xs.reverse[i]?=Z x,λi H x j=>j=H/\∀xs,qg K H l xs->xs.length=n->xs.reverse[i]?=Z x,λi H=>∃xs,qg K H l xs/\xs.length=n/\i=n⟩
def xV{P:bh}{w:cg}{K:ab}{tg:Expr} l it n (av:l≠it):rW P w K tg (Itv K l n) [it] it (λi h=>i<=n/\h.IsRevIter it l (n-1-i)) where
 mem:=by simp
 obj:=λi h st b j=>by
  rw[am.mp j];obtain⟨_,o,e,c,d⟩:=st;exact⟨o,e,λv z=>by rw[d]at z;cases z⟩
 keep:=λi h h' st k=>⟨st.1,st.2.at λo e=>k it (by simp) o e⟩
 item:=by
  intro X hP hw hK hc i B s σ H E I hf st D;subst hP hw hK;obtain⟨xs,x,hq,hn,hx⟩:=D;obtain⟨J,rv,p,hz⟩:=I.list hq;obtain⟨u,L,ru⟩:=rv.reverse.get hx;obtain⟨f0,M,f2,zx,T,zw⟩:=hf it (by simp);have hl:=rv.length;have hi :=by
   have:=(ax.mp L).1;simpa using this
  have ei:(n:Int)-1-(i:Nat)=((n-1-i:Nat):Int):=by lia
  have zy:J.toArray[n-1-i]?=Z u:=by
   rw[List.getElem?_reverse (by lia)]at L;rw[fC,<-L];congr 1;lia
  have t:=st.2;rw[ei]at t;refine wpAny_pyNext_rev_item t p.isList zy λh' z sb=>?_;have e2:((n-1-i:Nat):Int)-1=(n:Int)-1-((i+1:Nat):Int):=by lia
  rw[e2]at z;have I1 :=I.turned (t':=s.toks) (λb o j e=>(sb.2 b j).trans e) f0 M zx T zw;obtain⟨o,e,c,d⟩:=id z;exact⟨u,rfl,MQ e c d (by decide) ⟨x,H,I1,ru,⟨rfl,λys hy _=>by rw[I.list_inj hy hq];exact hx⟩,⟨by lia,z⟩,λb j=>(hf b j).1⟩⟩
 done:=by
  intro X hP hw hK hc i B s σ H E I hf st D;obtain⟨xs,hq,hn,rfl⟩:=D;obtain⟨f0,M,f2,zx,T,zw⟩:=hf it (by simp);have t:=st.2;rw[show(i:Int)-1-i = -1 by lia]at t;exact wpAny_pyNext_rev_end (I.ok.hd hc) t λh' eb=>⟨rfl,I.turned (λb o j e=>eb b o j e) f0 M zx T zw⟩
 self:=λ_ _ _ _ _ st h=>ju st.2 h
def JC{zx:TA}(T:Gl X "reversed")(hm:X.mg "reversed"=O)(zw:PA X [a] zx)(hs:ah [a] X.env=[(U,eval a X.env)]:=by rfl) :
  PI X tg (.Call (.Name "reversed" p) [a] [] L) (λM H R=>zx M H λvs B=>∃l xs,vs=[.ref l]/\qg X.K B l xs/\R (Itv X.K l xs.length) B):=by
 intro j s M H R I h;refine Call_ (B0 I T hm (show cW "reversed"=Z (.type "reversed") from by kernel_rfl) (cH (pA (zw L j s M H _ I h) λus s1 J=>?_) hs rfl));obtain⟨vs,B,D,zy,q1⟩:=J;obtain⟨l,xs,rfl,hq,q⟩:=q1;obtain⟨u,rfl,ru⟩:=Zx zy;cases ru;obtain⟨t,rv,E,hz⟩:=D.list hq;refine call_reversed_list E.isList ?_;have e:((t.toArray.size:Nat))=xs.length:=by rw[aP,rv.length]
 have z:(s1.heap.push (revObj l (t.toArray.size-1))).IsRevIter s1.heap.objs.size l (xs.length-1-((0:Nat))):=⟨_,ar _ rfl,rfl,by rw[<-e];simp[revObj]⟩
 have nl:l≠s1.heap.objs.size:=λy=>by
  obtain⟨o,ho,_⟩:=E.isList;exact absurd (aC ho) (by rw[y];exact cp _)
 refine ju z ?_;refine⟨s1.heap.objs.size,[s1.heap.objs.size],_,_,B,rfl,D.kept λb o q=>ae _ q,xV l _ xs.length nl,⟨b9 _,z⟩,λb hb=>?_,q⟩;rw[am.mp hb];exact D.fpOk (au _) (D.hok.fresh (au _))
def C8(hc:X.calm=Y)(L:Gl X "reversed")(hm:X.mg "reversed"=O)(M:AM X ms [a] zx)(hs:ah [a] X.env=[(U,eval a X.env)]:=by rfl) :
  IM X ms tg (.Call (.Name "reversed" p) [a] [] T) (Qb uF zx) :=
 PI.imp (JC L hm M hs) λσ H R zw=>by
  obtain⟨F,zy,xs,k1,k2,j,w⟩:=zw;obtain⟨qs,e1,j⟩:=Qc j;refine⟨F,zy,qs,k1,k2,e1,λvs H1 F1 B u=>?_⟩;delta uF at j;split at j
  .cases j;obtain⟨v,t,rfl,u,qt⟩:=u;subst qt;obtain⟨l,us,rfl,sl,D⟩:=u;refine⟨l,us,rfl,B.sub.seq sl,w _ _ _ B ?_⟩;have E:=D.reverse;refine⟨λi I J e2=>?_,λi I v H3 J e2 y=>?_,λI e2=>?_⟩
   .have hv:i<us.reverse.length:=by rw[E.length];exact J
    exact⟨us,us.reverse[i],e2.seq sl,rfl,aG hv⟩
   .obtain⟨rfl,y⟩:=y;obtain⟨p,e3,e4⟩:=E.back (y us (e2.seq sl) rfl);exact⟨p,e3,λF2 x1 x2=>⟨F2,.refl x2,e4.mono x1⟩⟩
   .exact⟨us,e2.seq sl,rfl,by rw[fQ,D.length]⟩
  .cases j
end
end L2.PM
namespace L2.PM
open PySem
def xW(ms:List Nat)(i:Nat)(l:oN):PV->Option Slot->Option tV
 |.tup ys,Z (.ow xs)=>if xs.length+ys.length<qy/\(!ms.contains i)=Y then Z (.nx ((QZ (flat (.tup ys)) ms l).set i (.ow (xs++ys)))) else O
 |_,_=>O
def JD(ms:List Nat)(i:Nat)(m:pI):pW:=λj=>(m j).bind λr=>xW ms i j r j[i]?
def SU:PV->PV->Option PV
 |.tup a,.tup b=>if a≠[]/\b≠[]/\a.length+b.length<=qy then Z (.tup (a++b)) else O
 |_,_=>O
def sQ:List PV->Option (List Bool)
 |[]=>Z []
 |.bl b::xs=>(sQ xs).map (b :: ·)
 |_::_=>O
theorem VA:∀{xs:List PV}{bs:List Bool},sQ xs=Z bs->xs=bs.map PV.bl
 |[],bs,h=>by cases h;rfl
 |.bl b::xs,bs,h=>by
  have h:(sQ xs).map (b :: ·)=Z bs:=h;cases e:sQ xs with
  |none=>rw[e]at h;cases h
  |some cs=>rw[e]at h;cases h;rw[VA e];rfl
 |.non::_,_,h=>by cases h
 |.int _::_,_,h=>by cases h
 |.str _::_,_,h=>by cases h
 |.tup _::_,_,h=>by cases h
 |.lst _::_,_,h=>by cases h
def QiS:∀bs ,sQ (bs.map PV.bl)=Z bs:=by
 intro bs;induction bs with
 |nil =>
  exact rfl
 |cons b bs j =>
  show(sQ (bs.map PV.bl)).map (b :: ·)=_;rw[j];rfl
def M4:List PV->Option PV
 |[.lst xs]=>(sQ xs).map λbs=>.bl (bs.all id)
 |_=>O
def OJ:List PV->Option PV
 |[.lst xs]=>(sQ xs).map λbs=>.bl (bs.any id)
 |_=>O
end L2.PM
namespace L2.PM
open PySem PySem.Spec PyProof.Rows
namespace SF
end SF
section
def JE(h:Heap)(a l:Addr)(i:Int):Prop:=∃o,h.get? a=Z o/\o.cls = .type "reversed"/\o.data = .fields #[.ref l,cD i]
def JE.at(x:JE h a l i)(e:∀o,h.get? a=Z o->B.get? a=Z o):JE B a l i:=let ⟨o,ho,r⟩:=x;⟨o,e _ ho,r⟩
end
end L2.PM
namespace L2.PM
open PySem PySem.Spec PyProof.Rows
open PySem.AutoSeq1 (wpAny_loadPart')
def Qjw l items n b B o2 L (hc:o2.cls = .type "tuple") (hd:o2.data = .seq B L)
  (M:¬(!items.isEmpty&&dP (items.size+B.size))=Y) (D:items.size<=aV) (I:items.size+B.size<=aV+1) :
  Meets (io.«list.extend» ⟨[.ref l,.ref b],[]⟩) (λ_ R s=>s.heap.get? l=Z { cls := .type "list",dict:=O,data := .seq items n,slots := #[] }/\s.heap.get? b=Z o2/\R (.ok (.ret fj)) { s with heap:=s.heap.update l (cT λx=>x++B),toks:=s.toks }) :=
 .of_wp λprog w A R s h=>by
  obtain⟨H,J,data2,u⟩:=o2;subst hc hd;obtain⟨zy,g,d,tk,os⟩:=s;obtain⟨t,E,h⟩:=h;have T:=jU;have zx:=jV;have j:(items++B).size<=aV+1:=by rw[jH];exact I
  wp_walk using (jh t rfl (hz:=D) (_hz':=j)),cF t,cF E;exact⟨_,rfl,h⟩
section
def GK(K:ab):V->List V->Hp->VK->Prop:=λx vs H Q=>∃l b xs j,x = .ref l/\vs=[.ref b]/\H l=Z (.lst xs)/\qz K H b j/\xs.length+j.length<=aV/\Q .non (pf H l (.lst (xs++j)))
def C9:NR X "list.extend" (GK X.K):=by
 intro E s σ H x vs v us Q I M zx h;obtain⟨l,b,xs,zs,rfl,rfl,J,T,hz,q⟩:=h;cases M;obtain⟨u,rfl,zw⟩:=zx.one;cases zw;obtain⟨z,j,n,r,hl,e⟩:=I.lstM J;obtain⟨t,L,pt,z2⟩:=I.tuple T;obtain⟨o2,e2,hc,zy,hd⟩:=pt;have av:=L.length;have D:j.toArray.size+t.toArray.size<=aV:=by grind
 have B:¬(!j.toArray.isEmpty&&dP (j.toArray.size+t.toArray.size))=Y:=by
  rw[QiB D,i6];grind
 refine gx F.slot_list_extend ⟨_,e,rfl⟩ F.entry_list_extend (F.args_list_extend_2 _ _)
  (Qjw l j.toArray n b t.toArray o2 zy hc hd B (by grind) (by lia)) ⟨e,e2,?_⟩
 refine⟨.non,_,I.lset J e (by simp) (r.append L) ?_,rfl,q⟩;grind
end
end L2.PM
namespace L2.PM
open PySem PySem.Spec PyProof.Rows
section
def Db:qY X (cu .Add) SU:=by
 intro j s D H x y v u Q I E J h;obtain⟨F,p,q,r,h1,h2,h3,l,w⟩:=h;cases p<;>first
  | (exfalso;cases l;done)
  | (cases q<;>first | (exfalso;cases l;done) | skip)
 obtain⟨⟨L,M,c⟩,rfl⟩:=Qi l;obtain⟨a,vs,rfl,sa,t⟩:=h2;obtain⟨b,us,rfl,sb,rb⟩:=h3;have zy:vs≠[]:=by
  intro e;have:=t.length;rw[e]at this;exact L (b4.mp (by simpa using this.symm))
 have T:us≠[]:=by
  intro e;have:=rb.length;rw[e]at this;exact M (b4.mp (by simpa using this.symm))
 refine Ck j s D H _ _ v u Q I E J ⟨a,b,vs,us,rfl,rfl,h1.seqT sa,h1.seqT sb,zy,by rw[t.length,rb.length];exact aY c QO,λe=>absurd e T,λ_ p B=>?_⟩;refine w _ _ _ (.laid h1 B) ?_;exact⟨p,_,rfl,.of Qf,(t.append rb).mono (pd.laid h1 B).ext⟩
def Qia:∀{bs:List Bool}{l:List Value},o4 (bs.map V.bl) l->l=bs.map fG:=by
 intro bs;induction bs with
 |nil =>
  intro _ h;cases h;rfl
 |cons b bs j =>
  intro _ h;cases h with
  |cons h1 h2=>rw[j h2,h1];rfl
def Qin{K:ab}:∀{bs:List Bool}{vs:List V},oP K F (bs.map PV.bl) vs->vs=bs.map V.bl:=by
 intro bs;induction bs with
 |nil =>
  intro vs h;rw[fr]at h;unfold oP at h;exact h
 |cons b bs j =>
  intro vs h;rw[aT]at h;unfold oP at h;obtain⟨v,t,rfl,h1,h2⟩:=h;unfold o3 at h1;rw[h1,j h2];rfl
def Qle{s:aH}{l:Heap}(B:∀b x,b∉[s.heap.objs.size]->(s.heap.push o).get? b=Z x->l.get? b=Z x):∀b x,s.heap.get? b=Z x->l.get? b=Z x :=
 λb x e=>B b x (λhm=>by rw[am.mp hm]at e;exact cp _ (aC e)) (ae _ e)
def Dc(bs:List Bool):((ai bs.length).all λi=>(bs[i]?).getD Y)=bs.all id:=by
 rw[cf,aX,aX];constructor
 .intro h x l;obtain⟨i,j,rfl⟩:=dH.mp l;have:=h i (aR.mpr j);simpa[j] using this
 .intro h i j;have j:=aR.mp j;simpa[j] using h bs[i] (bu j)
def Dd(bs:List Bool):((ai bs.length).any λi=>(bs[i]?).getD U)=bs.any id:=by
 rw[cf,dg,dg];constructor
 .rintro⟨i,j,h⟩;have j:=aR.mp j;exact⟨bs[i],bu j,by simpa[j] using h⟩
 .rintro⟨x,l,h⟩;obtain⟨i,j,rfl⟩:=dH.mp l;exact⟨i,aR.mpr j,by simpa[j] using h⟩
def Qni(hc:X.calm=Y):Yy X (.builtin "all") (λvs H Q=>∃(a:Addr)(bs:List Bool),vs=[.ref a]/\qg X.K H a (bs.map V.bl)/\Q (.bl (bs.all id)) H):=by
 intro B s zx H vs us Q I rs h;obtain⟨a,bs,rfl,h2,h3⟩:=h;obtain⟨u,rfl,E⟩:=Zx rs;cases E;obtain⟨J,r,L,_⟩:=I.list h2;have e:=Qia r;subst e;have l:=L.isList;have t:a<s.heap.objs.size:=by obtain⟨_,e,_⟩:=l;exact aC e
 refine call_all_walk (gF l ?_);refine⟨s.heap.objs.size,[s.heap.objs.size,a],[s.heap.objs.size],(bs.map fG).toArray.size,_,_,λi=>(bs[i]?).getD Y,rfl,lZ (A:=X.A.in1) (I.ok.hd hc) _ a (aM t) (bs.map fG).toArray,
  ⟨⟨_,ar _ rfl,rfl,rfl⟩,l.push _⟩,λi v s' T zw j D=>?_,λzy tk M=>?_⟩
 .have j:(bs.map fG)[i]?=Z v:=by simpa using j
  rw[aI,lw]at j;obtain⟨b,e,rfl⟩:=j;simp only[e]at D;exact du D
 .have e:((ai (bs.map fG).toArray.size).all λi=>(bs[i]?).getD Y)=bs.all id:=by
   rw[aP,ag];exact Dc bs
  rw[e];exact⟨.bl (bs.all id),H,I.kept (Qle M),rfl,h3⟩
def Qnh(hc:X.calm=Y):Yy X (.builtin "any") (λvs H Q=>∃(a:Addr)(bs:List Bool),vs=[.ref a]/\qg X.K H a (bs.map V.bl)/\Q (.bl (bs.any id)) H):=by
 intro B s zx H vs us Q I rs h;obtain⟨a,bs,rfl,h2,h3⟩:=h;obtain⟨u,rfl,E⟩:=Zx rs;cases E;obtain⟨J,r,L,_⟩:=I.list h2;have e:=Qia r;subst e;have l:=L.isList;have t:a<s.heap.objs.size:=by obtain⟨_,e,_⟩:=l;exact aC e
 refine call_any_walk (gF l ?_);refine⟨s.heap.objs.size,[s.heap.objs.size,a],[s.heap.objs.size],(bs.map fG).toArray.size,_,_,λi=>(bs[i]?).getD U,rfl,lZ (A:=X.A.in1) (I.ok.hd hc) _ a (aM t) (bs.map fG).toArray,
  ⟨⟨_,ar _ rfl,rfl,rfl⟩,l.push _⟩,λi v s' T zw j D=>?_,λzy tk M=>?_⟩
 .have j:(bs.map fG)[i]?=Z v:=by simpa using j
  rw[aI,lw]at j;obtain⟨b,e,rfl⟩:=j;simp only[e]at D;exact du D
 .have e:((ai (bs.map fG).toArray.size).any λi=>(bs[i]?).getD U)=bs.any id:=by
   rw[aP,ag];exact Dd bs
  rw[e];exact⟨.bl (bs.any id),H,I.kept (Qle M),rfl,h3⟩
def JF(hc:X.calm=Y):BH X (.builtin "all") M4:=by
 intro j s l H vs us Q I rs h;obtain⟨F,ps,r,h1,h2,h3,w⟩:=h;refine Qni hc j s l H vs us Q I rs ?_;delta M4 at h3;split at h3
 .obtain⟨bs,e1,rfl⟩:=Zi h3;have e2:=VA e1;subst e2;obtain⟨v,t,rfl,h2,u⟩:=h2;subst u;obtain⟨a,us,rfl,k2,B⟩:=h2;have e3:=Qin B;subst e3;exact⟨a,bs,rfl,h1.seq k2,w.here h1 (Za _)⟩
 .cases h3
def JG(hc:X.calm=Y):BH X (.builtin "any") OJ:=by
 intro j s l H vs us Q I rs h;obtain⟨F,ps,r,h1,h2,h3,w⟩:=h;refine Qnh hc j s l H vs us Q I rs ?_;delta OJ at h3;split at h3
 .obtain⟨bs,e1,rfl⟩:=Zi h3;have e2:=VA e1;subst e2;obtain⟨v,t,rfl,h2,u⟩:=h2;subst u;obtain⟨a,us,rfl,k2,B⟩:=h2;have e3:=Qin B;subst e3;exact⟨a,bs,rfl,h1.seq k2,w.here h1 (Za _)⟩
 .cases h3
end
def Qje{P:bh}{w:cg}{K:ab}{M:List Expr}{kk:Nat}{pp:Pos} a it e (zy:e≠it):rW P w K (.Tuple M kk pp) (SO λH xs=>qg K H a xs) [e,it] e (λi h=>(∃l,IsEnum h e it i l)/\h.IsListIter it a i) where
 mem:=by simp
 obj:=λi h st b L=>by
  obtain⟨⟨l,he⟩,o,ho,c,d⟩:=st;rcases ap.mp L with z | z
  .subst z;exact⟨_,he,λv q=>by
    cases q⟩
  .rw[am.mp z];exact⟨o,ho,λv q=>by rw[d]at q;cases q⟩
 keep:=λi h h' st k=>by
  obtain⟨⟨l,he⟩,t⟩:=st;exact⟨⟨l,k e (by simp) _ he⟩,t.at λo q=>k it (by simp) o q⟩
 item:=by
  intro X hP hw hK hc i zx s σ H E I hf st hg;subst hP hw hK;obtain⟨xs,x,hq,hx⟩:=hg;obtain⟨zw,rv,pl,hz⟩:=I.list hq;have p:=pl.isList;obtain⟨u,hu,ru⟩:=rv.get hx;have hi :=(ax.mp hu).1;have az:a≠it:=λz=>by
   obtain⟨⟨oi,aq,ci,_⟩⟩:=(⟨st.2⟩:Nonempty _)
   obtain⟨oa,B,ca,_⟩:=p;rw[z,aq]at B;cases B;rw[ci]at ca;exact absurd ca (by decide)
  have aj:e∉[it,a]:=λz=>by
   rcases ap.mp z with z | z
   .exact zy z
   .have z:=am.mp z;obtain⟨⟨l,he⟩,_⟩:=st;obtain⟨oa,B,ca,_⟩:=p;rw[<-z,he]at B;cases B;exact absurd (show Value.type "enumerate"=Value.type "list" from ca) (by decide)
  have W:=WalksT.enumerateD (jm.list (prog:=X.prog) (w:=X.w) (A:=X.A.in1) (by have:=I.ok.hd hc;simp[this]) it a az zw.toArray) e zy aj (by simp);refine W.item i s _ _ (by simpa using hi) ⟨st.1,st.2,p⟩ λT aJ h1 tk hp hT tup mid k1=>?_;obtain⟨tt,y,hy,rfl⟩:=hp;have hy:y=u:=by
   rw[fC,hu]at hy;exact(bi hy).symm
  subst hy;have J:=W.apart i T h1 mid;refine⟨_,rfl,W.go M kk pp i T { s with heap:=h1,toks:=tk } _ _ mid λh2 t k2=>?_⟩;have hn:H T=O:=I.hok.fresh hT;have av:h2.IsTuple T #[.int i tt,y]:=tup.at λo q=>k2 T o J q;have I2:Inv X zx σ (pf H T (.tup [.int i,x])) { s with heap:=h2,toks:=tk }:=I.turnsNew (ch:=[e,it]) (o := .tup [.int i,x]) hf (λb o L q=>k2 b o L (k1 b o L q)) hT ⟨by show 2<=aV;decide,[.int i tt,y],.cons ⟨tt,rfl⟩ (.cons ru .nil),YR.pair av⟩;refine⟨.ref T,_,I2,rfl,⟨T,x,rfl,hn,rfl,λys hy=>by rw[I.list_inj hy hq];exact hx⟩,⟨t.1,t.2.1⟩,λb L=>?_⟩;have ak:b≠T:=λz=>J (z▸L);rw[Qh ak];exact(hf b L).1
 done:=by
  intro X hP hw hK hc i zx s σ H E I hf st hg;subst hP hw hK;obtain⟨xs,hq,hx⟩:=hg;obtain⟨zw,rv,pl,hz⟩:=I.list hq;have p:=pl.isList;have aZ:=rv.length;obtain⟨⟨l,he⟩,t⟩:=st;have D:jm X.prog X.w X.A.in1 it [it,a] i (λ_ _=>True) (λj h=>j=i/\h.IsListIter it a i/\h.IsList a zw.toArray) :=
   {live:=λ_ _ q=>let ⟨_,⟨o,ho,_⟩,_⟩:=q;⟨o,ho⟩
    frame:=λ_ _ _ q k=>⟨q.1,q.2.1.at λo z=>k it (by simp) o z,q.2.2.at λo z=>k a (by simp) o z⟩
    item:=λj s Q E hj q _=>absurd q.1 (aM hj)
    done:=λs Q E q fin=>wpAny_nextOf_list_end (by have:=I.ok.hd hc;simp[this]) q.2.1 q.2.2 (by simp;lia) fin }
  exact nJ D he ⟨rfl,t,p⟩ λh1 k=>⟨rfl,I.turns hf λb o L q=>k b o (λz=>L (by simp[z])) q⟩
 self:=λA i s Q E st h=>iN st.1.choose_spec h
section
def xX(T:Gl X "enumerate")(hm:X.mg "enumerate"=O)(zw:PA X [a] zy)(hs:ah [a] X.env=[(U,eval a X.env)]:=by rfl) :
  PI X (.Tuple zx kk pp) (.Call (.Name "enumerate" p) [a] [] L) (λM H R=>zy M H λvs B=>∃l,vs=[.ref l]/\(∃xs,qg X.K B l xs)/\R (SO λH xs=>qg X.K H l xs) B):=by
 intro j s M H R I h;refine Call_ (B0 I T hm (show cW "enumerate"=Z (.type "enumerate") from by kernel_rfl) (cH (pA (zw L j s M H _ I h) λus s1 J=>?_) hs rfl));obtain⟨vs,B,D,r1,q1⟩:=J;obtain⟨l,rfl,⟨xs,hq⟩,q⟩:=q1;obtain⟨u,rfl,ru⟩:=Zx r1;cases ru;obtain⟨av,rv,pl,hz⟩:=D.list hq;refine call_enumerate_list pl.isList λh' he E _ k=>?_;refine iN he ?_;refine⟨s1.heap.objs.size+1,[s1.heap.objs.size+1,s1.heap.objs.size],_,_,B,rfl,D.kept k,Qje l s1.heap.objs.size (s1.heap.objs.size+1) (nW _),⟨⟨_,he⟩,E⟩,λb hb=>?_,q⟩;have t:s1.heap.objs.size<=b:=by
  rcases ap.mp hb with z | z
  .rw[z];exact c8 _
  .rw[am.mp z];exact au _
 exact D.fpOk t (D.hok.fresh t)
def xY(hc:X.calm=Y)(zx:Gl X "enumerate")(hm:X.mg "enumerate"=O)(zw:AM X ms [a] zy)(hs:ah [a] X.env=[(U,eval a X.env)]:=by rfl) :
  IM X ms (.Tuple D kk pp) (.Call (.Name "enumerate" p) [a] [] av) (Qb Jz zy) :=
 PI.imp (xX zx hm zw hs) λσ H R zz=>by
  obtain⟨F,γ,xs,k1,k2,j,w⟩:=zz;obtain⟨qs,e1,j⟩:=Qc j;refine⟨F,γ,qs,k1,k2,e1,λvs H1 F1 E u=>?_⟩;delta Jz at j;split at j
  .cases j;obtain⟨v,t,rfl,u,qt⟩:=u;subst qt;obtain⟨l,us,rfl,sl,B⟩:=u;refine⟨l,rfl,⟨us,E.sub.seq sl⟩,w _ _ _ E ?_⟩;refine⟨λi I J e2=>?_,λi I v H3 J e2 y=>?_,λI e2=>?_⟩
   .have hv:i<us.length:=by
     rw[B.length];simpa using J
    exact⟨us,us[i],e2.seq sl,by simp[hv]⟩
   .obtain⟨T,x,rfl,L,rfl,y⟩:=y;obtain⟨p,e3,e4⟩:=B.back (y us (e2.seq sl));refine⟨.tup [pN i,p],?_,λF2 x1 M=>?_⟩
    .simp[e3]
    .refine⟨pf F2 T (.tup [.int i,x]),.laid M L,?_⟩;exact⟨T,[.int i,x],rfl,.of Qf,.cons (Qp _) (.cons (e4.mono (x1.trans (pd.laid M L).ext)) .nil)⟩
   .exact⟨us,e2.seq sl,by rw[B.length];simp⟩
  .cases j
end
section
def xZ(l:Gl X x)(hm:X.mg x=Z (.int i t))(hd:(x=="__debug__")=U:=by decide):EM X [] (.Name x B) (mC (.int i)) :=
 PE.imp (UD (v := .int i) l hm ⟨t,rfl⟩ hd) λu H Q j=>by
  obtain⟨F,D,r,h1,h2,h3,w⟩:=j;cases h3;exact w.here h1 (by rfl)
def GT(K:ab)(a:Addr)(l:List Str):Prop:=∃o t n,K.lookup a=Z o/\o.cls = .type "tuple"/\o.dict=O/\o.data = .seq t n/\t.size<=aV/\o4 (l.map V.str) t.toList
def x4(B:Gl X x)(hm:X.mg x=Z (.ref a))(D:GT X.K a l)(hd:(x=="__debug__")=U:=by decide):EM X [] (.Name x I) (mC (.tup (l.map .str))) :=
 PE.imp (UD (v := .ref a) B hm rfl hd) λt H Q j=>by
  obtain⟨F,u,r,h1,h2,h3,w⟩:=j;cases h3;refine w.here h1 ?_;exact⟨a,l.map V.str,rfl,.inr D,YM l⟩
end
section
def Qmk:qH X (bO .LtE) (λx y H Q=>∃i j,x = .str i/\y = .str j/\Q (.bl (rN i j)) H):=by
 intro l s E H x y v u Q I B D h;obtain⟨i,j,rfl,rfl,q⟩:=h;obtain⟨t,rfl⟩:=B;obtain⟨t',rfl⟩:=D;exact P.le_str (NE I q rfl)
def De:PV->PV->Option PV
 |.str a,.str b=>Z (.bl (rN a b))
 |_,_=>O
def JH:qY X (bO .LtE) De:=by
 intro j s t H x y v u Q I B D h;obtain⟨F,p,q,r,h1,h2,h3,l,w⟩:=h;cases p<;>first
  | (exfalso;cases l;done)
  | (cases q<;>first | (exfalso;cases l;done) | skip)
 cases l;exact Qmk j s t H x y v u Q I B D ⟨_,_,h2,h3,w.here h1 (Za _)⟩
end
def Its(x:Str):It:=⟨λi _=>i<x.cps.size,λi H v j=>j=H/\∃c,x.cps[i]?=Z c/\v = .str ⟨#[c]⟩,λi _=>x.cps.size<=i⟩
def x5{K:ab} x t it:rW P w K tg (Its x) [it] it (λi h=>h.IsStrIter it "str_ascii_iterator" x t i) where
 mem:=by simp
 obj:=λi h st b j=>by
  have e :=by simpa using j
  subst e;obtain⟨o,e,c,d⟩:=st;exact⟨o,e,λv z=>by rw[d]at z;cases z⟩
 keep:=λi h T st k=>by
  obtain⟨o,e,c,d⟩:=st;exact⟨o,k it (by simp) o e,c,d⟩
 item:=by
  intro X zw hw zy hc i l s σ H E I hf st D;have B :=D;obtain⟨f0,J,f2,L,M,zx⟩:=hf it (by simp);refine wpAny_pyNext_ascii_item st (aW B) λT u sb=>?_;have I1 :=I.turned (t':=s.toks+1) (λb o j e=>(sb.2 b j).trans e) f0 J L M zx;obtain⟨o,e,c,d⟩:=id u;exact⟨_,rfl,MQ e c d (by decide) ⟨.str ⟨#[x.cps[i]]⟩,H,I1,⟨_,rfl⟩,⟨rfl,_,aW B,rfl⟩,u,λb j=>(hf b j).1⟩⟩
 done:=by
  intro X zw hw zy hc i l s σ H E I hf st D;have B :=D;obtain⟨f0,J,f2,L,M,zx⟩:=hf it (by simp);exact wpAny_pyNext_ascii_end (I.ok.hd hc) st (cA B) λT eb=>⟨rfl,I.turned (λb o j e=>eb b o j e) f0 J L M zx⟩
 self:=λ_ _ _ _ _ st h=>wpAny_pyIter_striter_ascii st h
section
def JI(L:PE X l tl):PI X T l (λB H R=>tl B H λv D=>∃x,v = .str x/\x.cps.all (· < 128)=Y/\R (Its x) D):=by
 intro j s B H R I h;refine pA (L j s B H _ I h) λv s1 ⟨y,D,u,E,J⟩=>?_;obtain⟨x,e,M,q⟩:=J;subst e;obtain⟨t,rfl⟩:=E;refine wpAny_pyIter_ascii M ?_;refine⟨s1.heap.objs.size,[s1.heap.objs.size],_,_,D,rfl,u.kept (t':=s1.toks) λb o e=>ae _ e,x5 x t _,⟨_,ar _ rfl,rfl,rfl⟩,λb zy=>?_,q⟩;have e:b=s1.heap.objs.size:=by simpa using zy
 subst e;exact u.fpOk (au _) (u.hok.fresh (au _))
def BK(x:Str):List PV:=x.cps.toList.map λc=>.str ⟨#[c]⟩
def SV:PV->Option (List PV)
 |.str x=>if x.cps.all (· < 128)=Y then Z (BK x) else O
 |_=>O
def JJ(m:pI):oN->Option (List PV):=λj=>(m j).bind SV
def JK(h:EM X ms e m):IM X ms L e (JJ m):=PI.imp (JI h) λJ H R t=>by
 obtain⟨F,u,xs,h1,h2,h3,w⟩:=t;obtain⟨p,e1,e2⟩:=Qc h3;refine⟨F,u,p,h1,h2,e1,λv B M g q=>?_⟩;cases p with
 |str x =>
  obtain⟨D,rfl⟩:=Qi e2;subst q;refine⟨x,rfl,D,w _ _ _ g ?_⟩;have l:(BK x).length=x.cps.size:=by simp[BK]
  refine⟨λi H j e=>?_,λi H v B j e y=>?_,λH e=>?_⟩
  .rw[l]at j;exact j
  .obtain⟨rfl,c,hc,rfl⟩:=y;refine⟨.str ⟨#[c]⟩,?_,λE zy I=>⟨E,.refl I,Iy _⟩⟩;delta BK;rw[aI,cX,hc];rfl
  .rw[l];exact au _
 |_=>cases e2
end
end L2.PM
namespace L2.PM
open PySem PySem.Spec PyProof.Rows PySem.Builtin PySem.Builtin.Str
section
def QlS(hy:(y.length==0)=U)(h:∀l k,l.map (·.1)=eU x y->l.length<=aV->Q (.ref s.heap.objs.size) { s with heap:=s.heap.push { cls := .type "list",data := .seq (strValues l).toArray },toks:=k })(B:x.length+2<=aV):aE (model prog w) A (call (.builtin "str.split") [.str x t,.str y u]) Q E s:=by
 have j:(partsBetween x (occurrences x y 0 x.length (x.length+1)) y.length).length<=aV:=by
  have e1:=StrLaws.occ_length_le x y 0 x.length (x.length+1);rw[length_partsBetween];lia
 cases h1:(decide (x.length<y.length)||decide (strKind x<strKind y))
 .cases hf:(occurrences x y 0 x.length (x.length+1)).isEmpty
  .refine gx F.slot_str_split (ir _ _ _) F.entry_str_split (F.args_str_split_2 _ _) (meets_str_split_sep x y t u h1 hy hf (by lia) j) ?_;rw[strsFrom_eq];refine h (numbered s.toks _) _ ((numbered_texts _ _).trans ((aN (i9 h1)).trans (aN (i9 hf))).symm) ?_;have:=congrArg dt (numbered_texts s.toks (partsBetween x (occurrences x y 0 x.length (x.length+1)) y.length));rw[ag]at this;rw[this];exact j
  .exact gx F.slot_str_split (ir _ _ _) F.entry_str_split (F.args_str_split_2 _ _) (meets_str_split_not_found x y t u h1 hy hf)
    (h [(x,t)] s.toks ((aN (i9 h1)).trans (aw hf)).symm (by show 1<=aV;decide))
 .exact gx F.slot_str_split (ir _ _ _) F.entry_str_split (F.args_str_split_2 _ _) (meets_str_split_cannot_occur x y t u h1)
   (h [(x,t)] s.toks (aw h1).symm (by show 1<=aV;decide))
end
section
def Yz:PV->List PV->Option (List PV)
 |.str x,[.str y]=>if (y.length==0)=U/\x.length+2<=qy then Z ((eU x y).map .str) else O
 |_,_=>O
def QiZ:∀l ,o4 ((l.map (·.1)).map V.str) (strValues l):=by
 intro l;induction l with
 |nil =>
  exact .nil
 |cons p l j =>
  exact .cons ⟨p.2,rfl⟩ (j)
def x6:wM X "str.split" (Oy X.K Yz):=by
 intro D s σ H x xs v us Q I J rs h;obtain⟨F,p,ps,r,h1,h2,h3,j,w⟩:=h;delta Yz at j;split at j
 .obtain⟨⟨L,M⟩,rfl⟩:=Qi j;subst h2;obtain⟨t,rfl⟩:=J;obtain⟨v1,r1,rfl,h3,zx⟩:=h3;subst zx;subst h3;obtain⟨u,rfl,T⟩:=Zx rs;obtain⟨t2,rfl⟩:=T;refine QlS L (λl k el zw=>?_) (aY M QO);have B :=I.hok.fresh (au _);have zy :=h1.free B;have E:=QiZ l;rw[el]at E;exact⟨.ref _,_,I.lnew E (by rw[ag,<-el,ag];exact zw),rfl,w _ _ _ F (.side h1 B) B zy Qf (YM _)⟩
 .cases j
def x8(h:EM X ms o m)(T:AM X ns (e::L) zx)(D:bY o "split" X.env (eval o X.env)=eval o X.env:=by rfl)(M:((bA l (ah (e::L) X.env)).all (λx => !x.1)&&(dF l (cn [] X.env)).all (λx=>x.1.isSome)
   && decide ((e::L).length+([]:List dD).length+(if ([]:List dD).isEmpty then 0 else 1)<30))=Y:=by rfl)(I:(zy.endLine==l.line)=Y:=by rfl)(hs:ah (e::L) X.env=(U,eval e X.env)::ah L X.env:=by rfl)(B:(bA l (ah L X.env)).any (·.1)=U:=by rfl) :
  EO X (ms++ns) (.Call (.Attribute o "split" zy) (e::L) [] l) (rO "str" Yz m zx) :=
 OA h T (Cq fm PySem.F.slot_str_split PySem.F.type_str_split x6 h T D M I hs B)
end
end L2.PM
namespace L2.PM
open PySem PySem.Spec PyProof.Rows
section
def QkO:V->List V->Hp->VK->Prop:=λx vs H Q=>∃l xs y i,x = .ref l/\vs=[.int i,y]/\H l=Z (.lst xs)/\0<=i/\i<=xs.length/\xs.length<aV/\xs.length<=100000/\Q .non (pf H l (.lst (xs.take i.toNat++y::xs.drop i.toNat)))
def Qmn:NR X "list.insert" QkO:=by
 intro D s zx H x vs v us Q I J j h;obtain⟨l,xs,y,i,rfl,rfl,E,T,zw,hz,hz2,q⟩:=h;cases J;cases j with
 |cons L j =>
  cases j with
  |cons M j =>
   cases j;obtain⟨t,rfl⟩:=L;obtain⟨z,u,n,r,zy,e⟩:=I.lstM E;have B:¬(!Builtin.List.listFitsIndex i)=Y:=by
    have:mn i=Y:=by
     delta mn;simp;lia
    simp[this]
   refine gx kQ ⟨_,e,rfl⟩ PySem.F.entry_list_insert (PySem.F.args_list_insert_3 _ _ _) (PySem.AutoListH.list_insert_list_int_val_1 l u.toArray n i t _ B (by rw[aP];lia)) ⟨e,?_⟩;refine⟨.non,_,I.lset E e ?_ ((r.take _).append (.cons M (r.drop _))) ?_,rfl,q⟩
   .have h1:¬i<0:=by lia
    simp only[h1, aP];have h2:min i.toNat u.length=i.toNat:=by lia
    rw[h2];apply jP.mp;simp;exact di (by rw[da];exact au _)
   .rw[a0,aU,cS,da];lia
def JL(ms:List Nat)(i:Nat)(l:oN)(xs:List PV)(r:PV):PV->Option tV
 |.int j=>if 0<=j/\j<=xs.length/\xs.length<=1000/\(flat r || !ms.contains i)=Y then Z (.nx ((QZ (flat r) ms l).set i (.ow (xs.take j.toNat++r::xs.drop j.toNat)))) else O
 |_=>O
def uH(ms:List Nat)(i:Nat)(mk m:pI):pW:=λl=>match l[i]? with
 |some (.ow xs)=>(mk l).bind λj=>(m l).bind λr=>JL ms i l xs r j
 |_=>O
end
section
def OL:PV->List PV->Option PV
 | .str x,[.tup xs]=>match strs? xs with
  |some ys=>if (ys.map (·.length)).sum+ys.length*x.length<=qy then Z (.str (aL x ys)) else O
  |none=>O
 |_,_=>O
set_option tactic.hygienic true in
def x9:wM X "str.join" (BJ X.K OL):=by
 intro B s zw H x xs v us Q I E rs h;obtain⟨F,p,ps,r,h1,h2,h3,j,w⟩:=h;unfold OL at j;split at j
 .rename_i J zy;split at j
  .rename_i ys l;obtain⟨c,rfl⟩:=Qi j;unfold o3 at h2;subst h2;obtain⟨t,rfl⟩:=E;unfold oP at h3;obtain⟨v1,r1,rfl,h3,D⟩:=h3;unfold oP at D;subst D;unfold o3 at h3;obtain⟨a,ws,rfl,k2,L⟩:=h3;obtain⟨u,rfl,M⟩:=Zx rs;cases M;have e2:=SG l;subst e2;have e3:=XY L;subst e3;obtain⟨zx,T,pt,_⟩:=I.tuple (h1.seqT k2);refine join_tuple pt (by simpa using YL T) (aY c (by decide)) λt' k=>⟨.str _,H,I.tok _,⟨_,rfl⟩,w.here h1 (Iy _)⟩
  .cases j
 .cases j
def ya(h:EM X ms o m)(T:AM X ns (e::L) zx)(D:bY o "join" X.env (eval o X.env)=eval o X.env:=by rfl)(M:((bA l (ah (e::L) X.env)).all (λx => !x.1)&&(dF l (cn [] X.env)).all (λx=>x.1.isSome)
   && decide ((e::L).length+([]:List dD).length+(if ([]:List dD).isEmpty then 0 else 1)<30))=Y:=by rfl)(I:(zy.endLine==l.line)=Y:=by rfl)(hs:ah (e::L) X.env=(U,eval e X.env)::ah L X.env:=by rfl)(B:(bA l (ah L X.env)).any (·.1)=U:=by rfl) :
  EM X (ms++ns) (.Call (.Attribute o "join" zy) (e::L) [] l) (rO "str" OL m zx) :=
 Oz h T (Cq fm lI lH x9 h T D M I hs B)
end
end L2.PM
namespace L2.PM
open PySem
def ue(l lo:Int):List PV:=(ai (l-lo).toNat).map λk=>.int (l-(k:Nat))
def Df:PV->PV->PV->Option (List PV)
 |.int i,.int j,.int k=>if k = -1/\vA i=Y/\vA j=Y then Z (ue i j) else O
 |_,_,_=>O
def JM(l B D:pI):oN->Option (List PV):=λj=>(l j).bind λp=>(B j).bind λq=>(D j).bind λr=>Df p q r
def yb(ms:List Nat)(i:Nat)(l:oN):PV->Option Slot->Option tV
 |.lst ys,Z (.ow xs)=>if xs.length+ys.length<qy/\(!ms.contains i)=Y then Z (.nx ((QZ (flat (.lst ys)) ms l).set i (.ow (xs++ys)))) else O
 |_,_=>O
def JN(ms:List Nat)(i:Nat)(m:pI):pW:=λj=>(m j).bind λr=>yb ms i j r j[i]?
def SW:List PV->Option PV
 | [.tup xs]=>match strs? xs with
  |some ss=>if ss.length<1000 then Z (.int (o5 ss).length) else O
  |none=>O
 |_=>O
end L2.PM
namespace L2.PM
open PySem PySem.Spec PyProof.Rows
def VB(l:Int)(n:Nat):It:=⟨λi _=>i<n,λi H x j=>j=H/\x = .int (l-i),λi _=>n<=i⟩
def QlK{K:ab} it B n:rW P w K tg (VB B n) [it] it (λi h=>IsRangeIter h it (B+i*(-1)) (n-i) (-1)) where
 mem:=am.mpr rfl
 obj:=λi h st b l=>by
  obtain rfl:=am.mp l;exact⟨_,st,λv z=>nomatch (z)⟩
 keep:=λi h D st k=>k it (am.mpr rfl) _ st
 item:=by
  intro X hP hw hK hc i j s σ H E I hf st L;obtain⟨M,zx,y2,T,zw,zy⟩:=hf it (am.mpr rfl);refine(Walks.range (I.ok.hd hc) it B (-1) n).item i s _ _ L st λv D tk hv u kk=>?_;obtain⟨t,rfl⟩:=hv;have J:Inv X j σ H { s with heap:=D,toks:=tk }:=I.turned (λb o l e=>kk b o (λz=>l (am.mp z)) e) M zx T zw zy;refine⟨_,rfl,MQ u rfl rfl (by decide) ⟨.int (B-i),H,J,⟨t,?_⟩,⟨rfl,rfl⟩,u,λb l=>(hf b l).1⟩⟩;rw[show B+i*(-1)=B-i by lia]
 done:=by
  intro X hP hw hK hc i j s σ H E I hf st L;obtain⟨M,zx,y2,T,zw,zy⟩:=hf it (am.mpr rfl);exact nI (I.ok.hd hc) st (by have z:n<=i:=L;lia) λD eb=>⟨rfl,I.turned (λb o l e=>eb b o l e) M zx T zw zy⟩
 self:=λ_ _ _ _ _ st h=>nK st h
def yc(D : -(2^62)<=a)(l:a<2^62)(I : -(2^62)<=b)(B:b<2^62):io.Range.small a b (-1)=Y/\fB a b (-1)=((a-b).toNat):=by
 have e:fB a b (-1)=if a>b then a-b else 0:=by
  delta fB;simp only[  show(-(-1))=1 from rfl];split<;>lia
 refine⟨?_,by rw[e];split<;>lia⟩;delta io.Range.small;rw[e];simp only[io.Range.rangeFitsLong,aQ,dQ,hZ, show ¬((-1)>0) by decide,gG];split<;>lia
section
def Dg(zw:Gl X "range")(hm:X.mg "range"=O)(zy:PA X [a,b,c] ta)(hs:ah [a,b,c] X.env=[(U,eval a X.env),(U,eval b X.env),(U,eval c X.env)]:=by rfl)(B:ah [b,c] X.env=[(U,eval b X.env),(U,eval c X.env)]:=by rfl) :
  PI X tg (.Call (.Name "range" p) [a,b,c] [] zx) (λL H R=>ta L H λvs M=>∃i j ,vs=[.int i,.int j,.int (-1)]/\(-(2^62)<=i/\i<2^62 /\ -(2^62)<=j/\j<2^62)/\R (VB i (i-j).toNat) M):=by
 intro l s L H R I h;refine Call_ (B0 I zw hm boot_range (cH (pA (zy zx l s L H _ I h) λus s1 zz=>?_) (by rw[hs,B]) (by rw[B];rfl)));obtain⟨vs,M,I1,r1,E⟩:=zz;obtain⟨i,j,rfl,⟨E,q2,q3,q4⟩,q⟩:=E;cases r1 with
 | cons r D=>cases D with
  | cons r' D=>cases D with
   |cons T D =>
    cases D;obtain⟨t,rfl⟩:=r;obtain⟨t',rfl⟩:=r';obtain⟨u,rfl⟩:=T;obtain⟨sm,sz⟩:=yc E q2 q3 q4;refine call_range_3 (by decide) ?_ (Or.inl (PyProof.noPylong_small (by decide)));refine wpAny_pyIter_range (IsRange.new ..) sm ?_;have J:Inv X l L M { s1 with heap:=s1.heap.push { cls := .type "range",data := .fields #[.int i t,.int j t',.int (-1) u] },toks:=s1.toks }:=I1.kept λb o e=>ae _ e;refine⟨(s1.heap.push { cls := .type "range",data := .fields #[.int i t,.int j t',.int (-1) u] }).objs.size,[(s1.heap.push { cls := .type "range",data := .fields #[.int i t,.int j t',.int (-1) u] }).objs.size],_,_,M,rfl,
     J.kept λb o e=>ae _ e,QlK _ i (i-j).toNat,?_,λb hb=>?_,q⟩
    .rw[show i+((0:Nat))*(-1)=i by simp,show(((i-j).toNat))-((0:Nat))=fB i j (-1) by rw[sz];simp];exact ar _ rfl
    .obtain rfl:=am.mp hb;exact J.fpOk (au _) (J.hok.fresh (au _))
def Dh{K:ab} l lo:sW K (VB l (l-lo).toNat) F (ue l lo):=by
 have j:(ue l lo).length=(l-lo).toNat:=by simp[ue]
 refine⟨λi H h e=>?_,λi H x B h e y=>?_,λH e=>?_⟩
 .rw[j]at h;exact h
 .obtain⟨rfl,rfl⟩:=y;rw[j]at h;exact⟨.int (l-i),by simp[ue,h],λt D u=>⟨t,.refl u,Qp _⟩⟩
 .rw[j];exact au _
def Di{p q r:PV}(h:Df p q r=Z xs):∃i j k,p = .int i/\q = .int j/\r = .int k/\(if k = -1/\vA i=Y/\vA j=Y then Z (ue i j) else O)=Z xs:=by
 cases p with
 |int i =>
  cases q with
  |int j =>
   cases r with
   |int k=>exact⟨i,j,k,rfl,rfl,rfl,h⟩
   |_=>cases h
  |_=>cases h
 |_=>cases h
def uI(M:Gl X "range")(hm:X.mg "range"=O)(zx:AM X ms [a,b,c] (Qa T (Qa zw (Qa zy oK))))(hs:ah [a,b,c] X.env=[(U,eval a X.env),(U,eval b X.env),(U,eval c X.env)]:=by rfl)(B:ah [b,c] X.env=[(U,eval b X.env),(U,eval c X.env)]:=by rfl) :
  SA X ms tg (.Call (.Name "range" p) [a,b,c] [] av) (JM T zw zy) :=
 PI.imp (Dg M hm zx hs B) λσ H R zz=>by
  obtain⟨F,γ,xs,h1,h2,h3,w⟩:=zz;obtain⟨p,e1,h4⟩:=Qc h3;obtain⟨p',D,h5⟩:=Qc h4;obtain⟨E,l,h6⟩:=Qc h5;refine⟨F,γ,[p,p',E],h1,h2,by simp[Qa,oK,e1,D,l],λvs H' F' g q=>?_⟩;obtain⟨v,t,rfl,q,u⟩:=q;obtain⟨v',t',rfl,q',u⟩:=u;obtain⟨az,aq,rfl,I,u⟩:=u;subst u;obtain⟨i,j,k,rfl,rfl,rfl,h3⟩:=Di h6;obtain⟨⟨ek,J,L⟩,rfl⟩:=Qi h3;subst ek;subst q q' I;exact⟨i,j,rfl,⟨(MZ J).1,(MZ J).2,(MZ L).1,(MZ L).2⟩,w _ _ g.same λF=>Dh i j⟩
def GL(K:ab):V->List V->Hp->VK->Prop:=λx vs H Q=>∃l b xs j,x = .ref l/\vs=[.ref b]/\H l=Z (.lst xs)/\qg K H b j/\xs.length+j.length<=aV/\Q .non (pf H l (.lst (xs++j)))
end
open PySem.AutoSeq1 (wpAny_loadPart')
def Qmr l us n b ws o2 I (hc:o2.cls = .type "list") (hd:o2.data = .seq ws I)
  (L:¬(!us.isEmpty&&dP (us.size+ws.size))=Y) (B:us.size<=aV) (D:us.size+ws.size<=aV+1) :
  Meets (io.«list.extend» ⟨[.ref l,.ref b],[]⟩) (λ_ R s=>s.heap.get? l=Z { cls := .type "list",dict:=O,data := .seq us n,slots := #[] }/\s.heap.get? b=Z o2/\R (.ok (.ret fj)) { s with heap:=s.heap.update l (cT λx=>x++ws),toks:=s.toks }) :=
 .of_wp λprog w A R s h=>by
  obtain⟨E,H,data2,t⟩:=o2;subst hc hd;obtain⟨J,g,d,tk,os⟩:=s;obtain⟨j,u,h⟩:=h;have M:=jU;have zy:=jV;have hz:(us++ws).size<=aV+1:=by rw[jH];exact D
  wp_walk using (jh j rfl (hz:=B) (_hz':=hz)),cF j,cF u;exact⟨_,rfl,h⟩
section
def JO:NR X "list.extend" (GL X.K):=by
 intro E s σ H x vs v us Q I M zx h;obtain⟨l,b,xs,zs,rfl,rfl,J,T,hz,q⟩:=h;cases M;obtain⟨u,rfl,zw⟩:=zx.one;cases zw;obtain⟨z,j,n,r,hl,e⟩:=I.lstM J;obtain⟨t,L,pt,z2⟩:=I.list T;obtain⟨o2,e2,hc,zy,hd⟩:=pt.isList;have av:=L.length;have D:j.toArray.size+t.toArray.size<=aV:=by grind
 have B:¬(!j.toArray.isEmpty&&dP (j.toArray.size+t.toArray.size))=Y:=by
  rw[QiB D,i6];grind
 refine gx F.slot_list_extend ⟨_,e,rfl⟩ F.entry_list_extend (F.args_list_extend_2 _ _)
  (Qmr l j.toArray n b t.toArray o2 zy hc hd B (by grind) (by lia)) ⟨e,e2,?_⟩
 refine⟨.non,_,I.lset J e (by simp) (r.append L) ?_,rfl,q⟩;grind
end
structure sy (K:ab) (x qual:Str) (st:Stmt) (f:Addr) (fd:eT) (j:Int):Prop where
 ex:∃(T:Addr)(oc:Value)(od:Option Addr)(kV doc pm:Value)(an:Option Addr)(cdv ct:Value)(osl:Array (Option Value)),
  fd=cQ x qual (Qz st) (Qn st) (Qe st) (.ref T) kV doc pm an cdv ct/\K.lookup f=Z ⟨oc,od,.func fd,osl⟩/\fI K cdv qual=Y /\
  ∃(tc:Value)(td:Option Addr)(tk:Tok)(tn:Nat)(ts:Array (Option Value)),K.lookup T=Z ⟨tc,td,.seq #[.int j tk] tn,ts⟩
 kp:b7 K (.ref f)=Y
def Qlk{K:ab}{st:Stmt}{kV doc D B ct:Value}(l:K.lookup f=Z ⟨L,M,.func (cQ x qual (Qz st) (Qn st) (Qe st) (.ref T) kV doc D an B ct),I⟩)(c:fI K B qual=Y)(k:b7 K (.ref f)=Y)(t:K.lookup T=Z ⟨tc,zx,.seq #[.int j tk] zw,zy⟩):sy K x qual st f (cQ x qual (Qz st) (Qn st) (Qe st) (.ref T) kV doc D an B ct) j :=
 ⟨⟨T,L,M,kV,doc,D,an,B,ct,I,rfl,l,c,tc,zx,tk,zw,zy,t⟩,k⟩
section
def sy.ok{P:bh}{K:ab}{st:Stmt}(F:sy K x qual st f fd j)(S:pB N ps (Qe st))(len:∀vs H Q E,sp vs H Q E->vs.length=ps.length)(B:∀l A outer s H vs Q E,o8 k (A.deeper (fR qual (Qe st) s.heap.objs.size f l))->sp vs H Q E ->
   ∃t,PSs (qI qh P w K mg base N qual (Qe st) f l A outer s H E).nox (Qn st) t/\t { nx:=λ_ I=>Q .non I,rt:=Q } (Xj N vs) H):FnOk P w K mg base qh (k+1) f fd ps sp:=by
 obtain⟨T,L,M,kV,doc,zy,an,l,ct,J,rfl,lk,u,_⟩:=F.ex;refine wJ lk u S len λA outer s H vs Q E hr D=>?_;obtain⟨t,h,q⟩:=B l A outer s H vs Q E hr D;exact⟨t,h.nox,q⟩
def VC{P:bh}{K:ab}{st:Stmt}(L:sy K x qual st f fd j)(M:pB N ps (Qe st))(zx:ps.length=n)(B:∀l A outer s H E,o8 k (A.deeper (fR qual (Qe st) s.heap.objs.size f l)) ->
   ua (qI qh P w K mg base N qual (Qe st) f l A outer s H E).nox (Qn st) m):FnOk P w K mg base qh (k+1) f fd ps (spM K n (oX N.length n m)):=by
 refine L.ok M (λvs H Q E h=>by rw[h.1,zx]) λl A outer s H vs Q E hr h=>?_;refine⟨_,B l A outer s H E hr,?_⟩;obtain⟨J,F,qs,r,h1,h2,h3,D⟩:=h;delta oX at h3;have hq:qs.length=n:=by rw[<-h2.length];exact J
 rw[aw hq]at h3;obtain⟨o,e1,e2⟩:=Qc h3;refine⟨H,F,F,_,o,Ot h1 h2,e1,?_⟩;cases o with
 |nx I=>cases e2;exact λT t u S=>D .non t u S.gr QkM
 |rt p=>cases e2;exact λv t u g q=>D v t u g q
 |ro xs=>cases e2;exact λa vs t u g n zw zy q=>D.of_lst a vs t u g n zw zy q
 |_=>cases e2
def sy.binds{K:ab}{x qual:Str}{st:Stmt}{f:Addr}{fd:eT}{j:Int}{ps:List Str}(F:sy K x qual st f fd j)(h:∀(dV kV doc B:Value) (an:Option Addr) (l ct d:Value) (us:List Value),us.length=ps.length->∃k:Option (Array Value)->Sem (List (Str×Value)),gg (cQ x qual (Qz st) (Qn st) (Qe st) dV kV doc B an l ct) ⟨us,[]⟩=seqItems? dV >>= k/\k (Z #[d])=pure (ps.zip us)):ZJ K fd ps []:=by
 obtain⟨T,H,I,kV,doc,B,an,l,ct,D,rfl,lk,E,tc,J,tk,L,M,t⟩:=F.ex;intro s us X u;rw[bB]at u |-;obtain⟨k,e1,e2⟩:=h (.ref T) kV doc B an l ct (.int j tk) us u;exact jO rfl (X _ _ t) rfl e1 e2
def sy.bindsD{K:ab}{st:Stmt}(F:sy K x qual st f fd j)(h:∀dV kV doc B an l ct d us,us.length+1=ps.length->∃k ,gg (cQ x qual (Qz st) (Qn st) (Qe st) dV kV doc B an l ct) ⟨us,[]⟩=seqItems? dV >>= k/\k (Z #[d])=pure (ps.zip (us++[d]))) :
  ∃tk ,ZJ K fd ps [.int j tk]:=by
 obtain⟨T,H,I,kV,doc,B,an,l,ct,u,rfl,lk,D,tc,J,tk,L,M,t⟩:=F.ex;refine⟨tk,λs us X E=>?_⟩;obtain⟨k,e1,e2⟩:=h (.ref T) kV doc B an l ct (.int j tk) us (by simpa using E);exact jO rfl (X _ _ t) rfl e1 e2
end
def uJ(P:bh)(w:cg)(K:ab)(mg:Str->Option Value)(base:Heap)(k:Nat)(x:Str)(n:Nat)(j:Int)(g:List PV->Option PV):Prop :=
 ∃f fd ps,FnOk P w K mg base qh k f fd ps (spM K n g)/\mg x=Z (.ref f)/\b7 K (.ref f)=Y/\ZJ K fd ps []/\∃tk ,ZJ K fd ps [.int j tk]
def uJ.cal{K:ab}(c:uJ P w K mg base k x n j g):SH P w K mg base k x n g:=by
 obtain⟨f,fd,ps,h1,h2,h3,l,_⟩:=c;exact⟨f,fd,ps,h1,h2,h3,l⟩
section
def Dj(c:uJ X.prog X.w X.K X.mg X.base k x n j g)(L:∀ps r,g ps=Z r->ps.length=n)(hr:o8 k X.A)(M:Gl X x)(zx:AM X ms [e] (Qa m oK))(B:(x=="__debug__")=U:=by decide)(he:ah [e] X.env=(U,eval e X.env)::ah [] X.env:=by rfl)(D:(bA I (ah [] X.env)).any (·.1)=U:=by rfl) :
  EM X ms (.Call (.Name x p) [e] [] I) (Qb g (Qa m (Qa (mC (.int j)) oK))):=by
 obtain⟨f,fd,ps,F,hm,J,_,tk,T⟩:=c;refine PE.imp (UY (dvs:=[.int j]) F hr M hm J T (.cons ⟨tk,rfl⟩ .nil) Gy zx B he D) λσ H Q h=>?_;obtain⟨F,zw,r,k1,k2,l,w⟩:=h;obtain⟨xs,e1,l⟩:=Qc l;obtain⟨q,zy,e1⟩:=Qc e1;cases e1;refine⟨F,zw,[q],k1,k2,by simp[Qa,oK,zy],λvs H1 t u q1=>?_⟩;have E:oP X.K t [q,.int j] (vs++[.int j]):=q1.append (.cons (Qp _) .nil);exact⟨by rw[E.length];exact L _ _ l,t,_,r,u.sub,E,l,w.go u⟩
end
structure ZA (z TI TO i1 i2:Addr) (f1 f2:List Addr):Prop where
 ti:TI≠z/\TI≠TO/\TI≠i1/\TI≠i2
 to:TO≠z/\TO≠i1/\TO≠i2
 ii:i1≠z/\i2≠z/\i1≠i2
 o1:z∉f1/\TO∉f1/\i2∉f1
 o2:z∉f2/\TO∉f2/\i1∉f2
section
def VD{a b:Addr}{f:List Addr}(h:a∉f)(l:b∈f):b≠a:=λe=>h (e▸l)
def QI{it a:Addr}{f:List Addr}{n i:Nat}{P:Nat->Value->Prop}{S:Nat->Heap->Prop}{h l:Heap}(D:jm prog w A it f n P S)(st:S i h)(e:bN a h l)(B:a∉f):S i l :=
 D.frame i h l st λb j o q=>e.extBut b o (VD B j) q
def Dk{prog:bh}{w:cg}{A:dI}{E:Value->aH->Prop}{z:Addr}{TI:Addr}{TO:Addr}{B:Addr}{D:Addr}{f1:List Addr}{f2:List Addr}{n1:Nat}{n2:Nat}{k1:Nat}{k2:Nat}{P1:Nat->Value->Prop}{P2:Nat->Value->Prop}{zw:Nat->Heap->Prop}{T:Nat->Heap->Prop}{a b:Value}{Q:Value->aH->Prop}(I:jm prog w A B f1 n1 P1 zw)(L:jm prog w A D f2 n2 P2 T)(zy:ZA z TI TO B D f1 f2)(M:iH s.heap z TI TO .none)(gi:fk s.heap TI (.ref B) (.ref D))(go:fk s.heap TO a b)(l1:k1<n1)(l2:k2<n2)(t1:zw k1 s.heap)(t2:T k2 s.heap)(fin:∀l x y tk,P1 k1 x->P2 k2 y->iH l z TI TO (cD s.heap.objs.size)->fk l TO x y->zw (k1+1) l->T (k2+1) l->fk l s.heap.objs.size x y->(∀c o,c∉[z,TO,B,D]->s.heap.get? c=Z o->l.get? c=Z o)->Q (.ref s.heap.objs.size) { s with heap:=l,toks:=tk }) :
  aE (model prog w) A (io.«zip.__next__» ⟨[.ref z],[]⟩) (λfin s'=>∃v,fin = .done (.ret v)/\Q v s') E s:=by
 show aE (model prog w) A (field (.ref z) 2 >>= _) _ _ s;refine aa (ew M rfl (x := .bool U) rfl ?_);show aE (model prog w) A (field (.ref z) 3 >>= _) _ _ s;refine aa (ew M rfl (x := .ref TI) rfl (aa (dR gi rfl ?_)));show aE (model prog w) A (eB (.ref z) >>= _) _ _ s;refine aa ?_;delta eB;refine aa (ew M rfl (x := .none) rfl (af ?_));simp only[iI];refine aa (fg (aa (ew M rfl (x := .ref TO) rfl (aa (fE M (by simp) λha za j=>aa ?_)))))
 replace za:iH ha z TI TO .ellipsis:=za
 simp only[nZ,oo,gM,List.forIn_nil];refine aa (aa (jQ ?_));show aE (model prog w) A (dE (.ref B) >>= _) _ _ _;refine aa (I.item k1 _ _ _ l1 (QI I t1 j zy.o1.1) λx hb tb px av t=>af ?_);have gb:fk hb TO a b:=t.extBut _ _ zy.to.2.1 (j.extBut _ _ zy.to.1 go);refine aa (dR gb rfl (aa (jt gb λhc gc u=>aa (oy (af ?_)))))
 replace gc:fk hc TO x b:=gc
 refine aa (aa (jQ ?_));show aE (model prog w) A (dE (.ref D) >>= _) _ _ _;refine aa (L.item k2 _ _ _ l2 (QI L (QI L (QI L t2 j zy.o2.1) t zy.o2.2.2) u zy.o2.2.1) λy hd td py az H=>af ?_);have gd:fk hd TO x b:=H.extBut _ _ zy.to.2.2 gc;refine aa (dR gd rfl (aa (jt gd λhe zu J=>aa (oy (af (af ?_))))))
 replace zu:fk he TO x y:=zu
 refine aa (dR zu rfl (aa (wpAny_newTuple ?_)));have sz:he.objs.size=s.heap.objs.size:=by rw[J.1,H.1,u.1,t.1,j.1]
 have zd:iH he z TI TO .ellipsis:=J.extBut _ _ zy.to.1.symm (H.extBut _ _ zy.ii.2.1.symm (u.extBut _ _ zy.to.1.symm (t.extBut _ _ zy.ii.1.symm za)));have kp:∀c o,c∉[z,TO,B,D]->s.heap.get? c=Z o->he.get? c=Z o:=λc o hc e=>by
  simp at hc;exact J.extBut _ _ hc.2.1 (H.extBut _ _ hc.2.2.2 (u.extBut _ _ hc.2.1 (t.extBut _ _ hc.2.2.1 (j.extBut _ _ hc.1 e))))
 have aq:zw (k1+1) he:=QI I (QI I (QI I av u zy.o1.2.1) H zy.o1.2.2) J zy.o1.2.1;have aj:T (k2+1) he:=QI L az J zy.o2.2.1;have zl:z<he.objs.size:=aC zd;show aE (model prog w) A (jN (.ref z) (.ref he.objs.size) >>= _) _ _ _;refine aa ?_;delta jN;have zp:iH (he.push { cls := .type "tuple",data := .seq #[x,y] }) z TI TO .ellipsis:=ae _ zd;refine aa (fE zp (by simp) λhg zg eg=>?_)
 replace zg:iH hg z TI TO (cD he.objs.size):=zg
 refine fE zg (by simp) λzx zh eh=>?_
 replace zh:iH zx z TI TO (cD he.objs.size):=zh
 have up:∀c o,c≠z->he.get? c=Z o->zx.get? c=Z o:=λc o c1 e=>eh.extBut _ _ c1 (eg.extBut _ _ c1 (ae _ e));have pt:fk zx he.objs.size x y:=eh.extBut _ _ (fo zl) (eg.extBut _ _ (fo zl) (ar _ rfl));rw[sz]at zh pt;refine af ⟨.ref he.objs.size,rfl,?_⟩;rw[sz];exact fin zx x y _ px py zh (up _ _ zy.to.1 zu) (I.frame _ _ _ aq λc hc o e=>up c o (VD zy.o1.1 hc) e) (L.frame _ _ _ aj λc hc o e=>up c o (VD zy.o2.1 hc) e) pt λc o hc e=>up c o (λq=>hc (by simp[q])) (kp c o hc e)
def JP{prog:bh}{w:cg}{A:dI}{E:Value->aH->Prop}{z:Addr}{TI:Addr}{TO:Addr}{B:Addr}{D:Addr}{f1:List Addr}{f2:List Addr}{zw:Nat}{n2:Nat}{k1:Nat}{k2:Nat}{P1:Nat->Value->Prop}{P2:Nat->Value->Prop}{S1:Nat->Heap->Prop}{S2:Nat->Heap->Prop}{a b:Value}{Q:Fin->aH->Prop}(L:jm prog w A B f1 zw P1 S1)(M:jm prog w A D f2 n2 P2 S2)(zy:ZA z TI TO B D f1 f2)(I:iH s.heap z TI TO .none)(gi:fk s.heap TI (.ref B) (.ref D))(go:fk s.heap TO a b)(ends:k1=zw\/k1<zw/\k2=n2)(t1:S1 k1 s.heap)(t2:S2 k2 s.heap)(fin:∀T e tk,(∀c o,c∉[z,TO,B,D]->s.heap.get? c=Z o->T.get? c=Z o)->(∃o,T.get? e=Z o/\o.cls = .type "StopIteration")->E (.ref e) { s with heap:=T,toks:=tk }) :
  aE (model prog w) A (io.«zip.__next__» ⟨[.ref z],[]⟩) Q E s:=by
 show aE (model prog w) A (field (.ref z) 2 >>= _) _ _ s;refine aa (ew I rfl (x := .bool U) rfl ?_);show aE (model prog w) A (field (.ref z) 3 >>= _) _ _ s;refine aa (ew I rfl (x := .ref TI) rfl (aa (dR gi rfl ?_)));show aE (model prog w) A (eB (.ref z) >>= _) _ _ s;refine aa ?_;delta eB;refine aa (ew I rfl (x := .none) rfl (af ?_));simp only[iI];refine aa (fg (aa (ew I rfl (x := .ref TO) rfl (aa (fE I (by simp) λha H t=>aa ?_)))))
 replace H:iH ha z TI TO .ellipsis:=H
 simp only[nZ,oo,gM,List.forIn_nil];refine aa (aa (jQ ?_));show aE (model prog w) A (dE (.ref B) >>= _) _ _ _;have stop:∀{h:Heap}{e:Addr},(∃o,h.get? e=Z o/\o.cls = .type "StopIteration")->iH h z TI TO .ellipsis->e≠z:=λhe hz q=>by
  obtain⟨o,ho,hc⟩:=he;rw[q,hz]at ho;cases ho;simp at hc
 rcases ends with rfl|⟨l1,rfl⟩
 .refine aa (L.done _ _ _ (QI L t1 t zy.o1.1) λJ e l he=>?_);have zb:iH J z TI TO .ellipsis:=l _ _ zy.ii.1.symm H;have ne:=stop he zb;obtain⟨o,ho,hc⟩:=he;refine fE zb (by simp) λzu _ u=>fin zu e _ (λc o j q=>?_) ⟨o,u.extBut _ _ ne ho,hc⟩;simp at j;exact u.extBut _ _ j.1 (l _ _ j.2.2.1 (t.extBut _ _ j.1 q))
 .refine aa (L.item k1 _ _ _ l1 (QI L t1 t zy.o1.1) λx J tb px az l=>af ?_);have gb:fk J TO a b:=l.extBut _ _ zy.to.2.1 (t.extBut _ _ zy.to.1 go);refine aa (dR gb rfl (aa (jt gb λhc gc u=>aa (oy (af ?_)))));refine aa (aa (jQ ?_));show aE (model prog w) A (dE (.ref D) >>= _) _ _ _;refine aa (M.done _ _ _ (QI M (QI M (QI M t2 t zy.o2.1) l zy.o2.2.2) u zy.o2.2.1) λhd e ed he=>?_);have zd:iH hd z TI TO .ellipsis:=ed _ _ zy.ii.2.1.symm (u.extBut _ _ zy.to.1.symm (l.extBut _ _ zy.ii.1.symm H));have ne:=stop he zd;obtain⟨o,ho,zx⟩:=he;refine fE zd (by simp) λav _ ee=>fin av e _ (λc o j q=>?_) ⟨o,ee.extBut _ _ ne ho,zx⟩;simp at j;exact ee.extBut _ _ j.1 (ed _ _ j.2.2.2 (u.extBut _ _ j.2.1 (l.extBut _ _ j.2.2.1 (t.extBut _ _ j.1 q))))
def Qhv{prog:bh}{w:cg}{A:dI}{E:Value->aH->Prop}{z:Addr}{TI:Addr}{TO:Addr}{B:Addr}{D:Addr}{M:List Addr}{zw:List Addr}{T:Nat}{zu:Nat}{k1:Nat}{k2:Nat}{zx:Nat->Value->Prop}{P2:Nat->Value->Prop}{I:Nat->Heap->Prop}{L:Nat->Heap->Prop}{a b:Value}{Q:Option Value->aH->Prop}(D1:jm prog w A.in1 B M T zx I)(D2:jm prog w A.in1 D zw zu P2 L)(zy:ZA z TI TO B D M zw)(gz:iH s.heap z TI TO .none)(gi:fk s.heap TI (.ref B) (.ref D))(go:fk s.heap TO a b)(l1:k1<T)(l2:k2<zu)(t1:I k1 s.heap)(t2:L k2 s.heap)(fin:∀l x y tk,zx k1 x->P2 k2 y->iH l z TI TO (cD s.heap.objs.size)->fk l TO x y->I (k1+1) l->L (k2+1) l->fk l s.heap.objs.size x y->(∀c o,c∉[z,TO,B,D]->s.heap.get? c=Z o->l.get? c=Z o)->Q (Z (.ref s.heap.objs.size)) { s with heap:=l,toks:=tk }) :
  aE (model prog w) A (iu (.ref z)) Q E s:=by
 have ty:s.TypeIs (.ref z) "zip":=⟨_,gz,rfl⟩
 delta iu;refine aa (gV (cP (name:=nS "__next__") ty F.slot_zip_next ?_));exact bS F.slot_zip_next ty F.entry_zip_next (Dk D1 D2 zy gz gi go l1 l2 t1 t2 λl x y tk p1 p2 j t u H J a6=>af (fin l x y tk p1 p2 j t u H J a6)) (F.args_zip_next_1 _)
def Qdl{prog:bh}{w:cg}{A:dI}{E:Value->aH->Prop}{z:Addr}{TI:Addr}{TO:Addr}{l:Addr}{B:Addr}{L:List Addr}{M:List Addr}{D:Nat}{zw:Nat}{k1:Nat}{k2:Nat}{P1:Nat->Value->Prop}{P2:Nat->Value->Prop}{zu:Nat->Heap->Prop}{zx:Nat->Heap->Prop}{a b:Value}{Q:Option Value->aH->Prop}(D1:jm prog w A.in1 l L D P1 zu)(D2:jm prog w A.in1 B M zw P2 zx)(zy:ZA z TI TO l B L M)(gz:iH s.heap z TI TO .none)(gi:fk s.heap TI (.ref l) (.ref B))(go:fk s.heap TO a b)(ends:k1=D\/k1<D/\k2=zw)(t1:zu k1 s.heap)(t2:zx k2 s.heap)(fin:∀I tk,(∀c o,c∉[z,TO,l,B]->s.heap.get? c=Z o->I.get? c=Z o)->Q O { s with heap:=I,toks:=tk }):aE (model prog w) A (iu (.ref z)) Q E s:=by
 have ty:s.TypeIs (.ref z) "zip":=⟨_,gz,rfl⟩
 delta iu;refine aa (gV (cP (name:=nS "__next__") ty F.slot_zip_next ?_));refine bS F.slot_zip_next ty F.entry_zip_next (JP D1 D2 zy gz gi go ends t1 t2 λI e tk kp he=>?_) (F.args_zip_next_1 _);obtain⟨o,ho,hc⟩:=he;exact aa (fX (T := "StopIteration") (b:=true) ⟨o,ho,hc⟩ isSubtype_stop (af (fin _ _ kp)))
end
abbrev hz1(h:Heap)(a:Addr):Heap:=h.push { cls := .type "tuple_iterator",data := .fields #[.ref a,.int 0 0] }
abbrev hz2(h:Heap)(a c:Addr):Heap:=(hz1 h a).push { cls := .type "list_iterator",data := .fields #[.ref c,.int 0 0] }
section
def JQ{n t l:Nat}(h1:t<n)(h2:l<n):ZA (n+4) (n+2) (n+3) n (n+1) [n,t] [n+1,l]:=by
 have q:∀{u v w:Nat},u≠v->u≠w->u∉([v,w]:List Nat):=λa b e=>by
  rcases ap.mp e with e | e
  .exact a e
  .exact b (am.mp e)
 refine⟨⟨?_,?_,?_,?_⟩,⟨?_,?_,?_⟩,⟨?_,?_,?_⟩,⟨q ?_ ?_,q ?_ ?_,q ?_ ?_⟩,⟨q ?_ ?_,q ?_ ?_,q ?_ ?_⟩⟩;all_goals (show(_:Nat)≠(_:Nat);lia)
end
section
def Yx(prog:bh)(w:cg)(L:Bool)(h:Heap)(a:Addr)(M:List Str):Prop :=
 ∃o j l t,h.get? a=Z o/\o.ExactSet/\o.data = .set j l t/\kA (strKind prog w) j.toList/\(∀k,k∈M↔∃e∈j.toList,(strKind prog w).is k e.2=Y) /\
  j.size<eD/\t.fits j.size=Y/\j.size=M.length/\M.Nodup/\qw L t
def Yx.at(x:Yx prog w L h a M)(e:∀o,h.get? a=Z o->l.get? a=Z o):Yx prog w L l a M:=by
 obtain⟨o,j,u,t,ho,r⟩:=x;exact⟨o,j,u,t,e o ho,r⟩
def Yw(M:List Str)(k:Str):List Str:=if k∈M then M else M++[k]
def XL(h:M.Nodup) k:(Yw M k).Nodup:=by
 delta Yw;split
 .exact h
 .rename_i l;rw[dL];exact⟨h,by simp,λa t b j=>by
   rw[am]at j;subst j;exact λe=>l (e▸t)⟩
def SY{h:Heap}(ho:h.get? a=Z o)(hd:o.data = .set D B t) l t' :
  (h.update a (jb l t')).get? a=Z { o with data := .set l (B+1) t' }:=by
 have e:=putSet_of l t' hd;have z:=fN (jb l t') ho (by rw[e];rfl);rw[e]at z;exact z
def Qck{l B:List (Int×Value)}(D:(strKind prog w).is k v=Y)(hm:∀k,k∈M↔∃e∈l,(strKind prog w).is k e.2=Y)(I:k∉M)(p:B.Perm (l++[((strKind prog w).hash k,v)])) j :
  j∈Yw M k↔∃e∈B,(strKind prog w).is j e.2=Y:=by
 delta Yw;rw[aN I,aS,am];constructor
 .rintro(z | rfl)
  .obtain⟨e,he,q⟩:=(hm j).mp z;exact⟨e,p.mem_iff.mpr (c9 _ he),q⟩
  .exact⟨_,p.mem_iff.mpr (bx _ (k9 _)),D⟩
 .rintro⟨e,he,q⟩;rcases aS.mp (p.mem_iff.mp he) with z | z
  .exact .inl ((hm j).mpr ⟨e,z,q⟩)
  .rw[am.mp z]at q;exact .inr ((strKind prog w).inj v j k q D)
def yd{L:Bool}{a:Addr}{M:List Str}{k:Str}{tk:Tok}{Q:Bool->aH->Prop}(hS:Yx prog w L s.heap a M)(room:M.length+1<eD)(fin:∀b B,bN a s.heap B->Yx prog w L B a (Yw M k)->Q b { s with heap:=B }):aE (model prog w) A (nN a (.str k tk) ((strKind prog w).hash k)) Q E s:=by
 obtain⟨o,J,ep,t,ho,hex,hd,D,hm,hb,hf,hn,zx,az⟩:=hS;have hk:(strKind prog w).is k (.str k tk)=Y:=lQ _ _ _ _;have T:(nv k tk).scannable=Y:=rfl;have tail:∀(g:Bool->Sem Unit),(∀(b:Bool)(u:aH)(R:Unit->aH->Prop),R () u->aE (model prog w) A (g b) R E u)->∀(l:Array (Int×Value))(tB:dS)(wd:Bool)(R:Option Bool->aH->Prop),
   kA (strKind prog w) l.toList->(∀j,j∈Yw M k↔∃e∈l.toList,(strKind prog w).is j e.2=Y)->l.size<eD->tB.fits l.size=Y->l.size=(Yw M k).length->qw L tB ->
   (∀B,bN a s.heap B->Yx prog w L B a (Yw M k)->R (Z Y) { s with heap:=B }) ->
   aE (model prog w) A (do
    lR a l tB
    if (!wd&&tB.tooFull)=Y then do
      g (hG tB l (b8 l.size)).2.2
      lR a (hG tB l (b8 l.size)).1 (hG tB l (b8 l.size)).2.1
      pure (Z Y)
     else pure (Z Y)) R E s:=by
  intro g hg l tB wd R h1 h2 h3 h4 h5 h6 hR;have zw:=SY ho hd l tB;refine aa (fO ho hd ?_ (d0 h3));have aq:=cK s.heap a (jb l tB);split
  .have p:=relayAll_perm tB l (b8 l.size);have ff:=relayAll_fits tB l (b8 l.size);have kk:=QdW h6 l (b8 l.size);generalize hG tB l (b8 l.size)=rl at p ff kk |-;obtain⟨zy,t3,aj⟩:=rl;have sz:zy.size=l.size:=by
    have:=p.length_eq;simpa using this
   refine aa (hg _ _ _ (aa (fO zw rfl ?_ (d0 (by rw[sz];exact h3)))));have aJ:=SY zw rfl zy t3;refine af (hR _ (aq.trans (cK _ a _)) ⟨_,zy,_,t3,aJ,hex,rfl,h1.perm p,λj=>(h2 j).trans ⟨λ⟨e,he,q⟩=>⟨e,p.mem_iff.mpr he,q⟩,λ⟨e,he,q⟩=>⟨e,p.mem_iff.mp he,q⟩⟩,by rw[sz];exact h3,ff,by rw[sz];exact h5,XL zx k,kk⟩)
  .exact af (hR _ aq ⟨_,l,_,tB,zw,hex,rfl,h1,h2,h3,h4,h5,XL zx k,h6⟩)
 refine b6 (aa (br ho hd hf ?_));dsimp only;rw[byScan_of T hb D,aw rfl];refine aa (aa (fg (aa (kH hk ho hd hf D ?_))));cases hr:kU (λe=>(strKind prog w).is k e.2) J.toList with
 |some j =>
  obtain⟨hj,pj,_⟩:=ge.mp hr;have H :=(hm k).mpr ⟨_,bu hj,pj⟩;refine af (af ?_);have z:=fin U s.heap (d5 a s.heap) (by
   delta Yw;rw[aw H];exact⟨o,J,ep,t,ho,hex,hd,D,hm,hb,hf,hn,zx,az⟩)
  exact z
 |none =>
  have H:k∉M:=λz=>by
   obtain⟨e,he,q⟩:=(hm k).mp z;rw[hX.mp hr e he]at q;cases q
  have gw:∀(b:Bool)(u:aH)(R:Unit->aH->Prop),R () u->aE (model prog w) A (match b with | true=>rule "set.scan.the-table-gave-way" | false=>pure ()) R E u:=λb u R hq=>by
   cases b
   .exact af hq
   .exact fg hq
  have I:=layNew_perm t J ((strKind prog w).hash k) (.str k tk);have fi:=layNew_fits t J ((strKind prog w).hash k) (.str k tk);have kp:=Qdn az J ((strKind prog w).hash k) (.str k tk);generalize layNew t J ((strKind prog w).hash k) (.str k tk)=ly at I fi kp |-;obtain⟨l,t1,wd,aj⟩:=ly;dsimp only at I fi kp |-;rw[jG]at I;have sz:l.size=J.size+1:=by
   have:=I.length_eq;simpa using this
  have ak:l.size=(Yw M k).length:=by
   delta Yw;rw[aN H,sz,hn];simp
  refine aa (gw _ _ _ ?_);have done:∀B,bN a s.heap B->Yx prog w L B a (Yw M k)->aE (model prog w) A (match Z Y with | some av=>pure av | none=>lS a (.str k tk) ((strKind prog w).hash k) 99999) Q E { s with heap:=B }:=λB sb z=>af (fin Y B sb z);split
  .refine aa ?_;refine af (tail _ gw l _ wd _ ((D.push hk T).perm I) (Qck hk hm H I) (by lia) ?_ ak ?_ done)
   .split
    .exact fi
    .exact nw fi
   .split
    .exact kp
    .exact QdX kp _
  .refine aa (af ?_);exact tail _ gw l _ wd _ ((D.push hk T).perm I) (Qck hk hm H I) (by lia) fi ak kp done
end
def ye(val:Nat->Str)(i:Nat):List Str:=((ai i).map val).foldl Yw []
def QdQ val i:ye val (i+1)=Yw (ye val i) (val i):=by
 delta ye;rw[gL,bw,ia];rfl
def QfH M k:(Yw M k).length<=M.length+1:=by
 unfold Yw;split
 .omega
 .simp
def QlV val:∀i,(ye val i).length<=i:=by
 intro i;induction i with
 |zero =>
  exact au _
 |succ i j =>
  rw[QdQ];have:=QfH (ye val i) (val i);have:=j;lia
section
theorem Qib{R:kO->aH->Prop}{I:Addr}{zx wr:List Addr}{G:Array ml->Array ml->Prop}{n:Nat}{P:Nat->Value->Prop}{St:Nat->aH->Prop}{L:Bool}(W:WalksS prog w A.in1 I zx wr G n P St) D (out:D∉zx) val (l:∀i v,P i v->∃t,v = .str (val i) t) (B:n+1<eD) :
  ∀k i s,n-i=k->i<=n->St i s->Yx prog w L s.heap D (ye val i) ->
   (∀s',Moved (D::wr) G s s'->Yx prog w L s'.heap D (ye val n)->R (.ok (.ret .none)) s')->gv (model prog w) A (.builtin "set.update.loop" ⟨[.ref D,.ref I],[]⟩) R s
 |0,i,s,T,zw,st,u,fin=>by
  obtain rfl:i=n:=by lia
  have E:D∉wr:=λz=>out (W.sub _ z);refine cG dW ?_;refine aa (W.done s _ _ st λs' mv=>?_);exact af (fin s' (mv.mono λb j=>ay _ j) (u.at λo e=>mv.heap D o E e))
 |k+1,i,s,T,zw,st,u,fin=>by
  have E:D∉wr:=λz=>out (W.sub _ z);refine cG dW ?_;refine aa (W.item i s _ _ (by lia) st λv s' zy H mv=>?_);obtain⟨t,rfl⟩:=l i v zy;refine aa (b6 ?_);refine b6 (aa ((strKind prog w).pyHash (lQ _ _ _ _) ?_));have sl:=QlV val i;refine yd (s:={ s' with toks:=s'.toks+1 }) (u.at λo e=>mv.heap D o E e) (by lia) λb h' sb z=>?_;rw[<-QdQ]at z;refine af ⟨gf dU _,Qib W D out val l B k (i+1) _ (by lia) (by lia) (W.frame _ s' _ _ H (c8 _) λb j o e=>?_) z λJ M z2=>?_⟩
  .exact(sb.2 b λq=>out (q▸j)).trans e
  .refine fin J (Moved.trans W.gtrans ((mv.mono λb j=>ay _ j).then_heap (c8 _) λb o j e=>?_) M) z2;exact(sb.2 b λq=>j (q▸a7)).trans e
def JR:List Value->List Str->Prop
 |[],[]=>True
 |v::vs,x::xs=>(∃t,v = .str x t)/\JR vs xs
 |_,_=>False
theorem JR.str_at:∀{vs:List Value}{xs:List Str},JR vs xs->∀i (v:Value),vs[i]?=Z v->∃t,v = .str (xs.getD i "") t
 |[],_,_,i,v,e=>by simp at e
 |w::vs,[],h,_,_,_=>h.elim
 |w::vs,x::xs,h,0,v,e=>by
  simp at e;subst e;exact h.1
 |w::vs,x::xs,h,i+1,v,e=>by
  have:=JR.str_at h.2 i v (by simpa using e);simpa using this
def yf(e:h.get? a=Z { cls := .type "set",dict:=O,data := .set #[] 0 (.fresh 0 0 (!byT w)) }):Yx prog w (!byT w) h a [] :=
 ⟨_,#[],0,_,e,⟨rfl,rfl,rfl⟩,rfl,λe he=>by simp at he,λk=>by simp,by decide,by rfl,rfl,.nil,rfl,by delta Up;simp[l0]⟩
set_option maxHeartbeats 3200000 in
def QfV{l:Addr}{B:Array Value}{ns:List Str}{Q:Value->aH->Prop}(calm:A.handled=O)(hi:JR B.toList ns)(hb:B.size+1<eD)(fin:∀(D:Heap) (tk:Nat),Yx prog w (!byT w) D s.heap.objs.size (ye (λi=>ns.getD i "") B.size)->(∀b o,b<s.heap.objs.size->s.heap.get? b=Z o->D.get? b=Z o)->Q (.ref s.heap.objs.size) { s with heap:=D,toks:=tk }) :
  (s.heap.IsTuple l B->aE (model prog w) A (call (.type "set") [.ref l]) Q E s)/\(s.heap.IsList l B->aE (model prog w) A (call (.type "set") [.ref l]) Q E s):=by
 constructor<;>intro hl<;>(
  obtain⟨c,tl,bZ⟩:=bI.mro;have aJ:=bI.made;have cv:=bI.sub;refine lO (lh ?_);show aE _ _ (callAny (.type "set") _) _ _ _;refine af ⟨ke _ (by decide+kernel),cG kZ ?_⟩;rw[dI.under_plain (n8 "set" [.ref l] []) rfl];have h1:=bI.notType;have h2:=bI.canCreate;have cj:=lq (.ref l);repeat (any_goals (first | assumption | wp_step))
  refine fF (setNew (.ref l) (E:=E) (Q₁:=λobj I=>obj = .ref s.heap.objs.size/\I={ s with heap:=s.heap.push { cls := .type "set",dict:=O,data := .set #[] 0 (.fresh 0 0 (!byT w)) } }) ⟨rfl,rfl⟩) λr I hr=>?_;cases r with
  |error e=>exact hr
  |ok fl =>
   cases fl with
   |ret obj =>
    obtain⟨rfl,rfl⟩:=hr;have zx:(s.heap.push { cls := .type "set",dict:=O,data := .set #[] 0 (.fresh 0 0 (!byT w)) }).get? s.heap.objs.size=Z { cls := .type "set",dict:=O,data := .set #[] 0 (.fresh 0 0 (!byT w)) }:=ar _ rfl;have hT:jS { s with heap:=s.heap.push { cls := .type "set",dict:=O,data := .set #[] 0 (.fresh 0 0 (!byT w)) } } (.ref s.heap.objs.size) "set":=⟨_,zx,rfl⟩
    have ck:=bI.init.lookup;have cJ:=bI.init.bind (.ref s.heap.objs.size);repeat (any_goals (first | assumption | wp_step))
    refine fF (oC (R:=wants (λr J=>r = .none/\∃D tk,J={ s with heap:=D,toks:=tk }/\Yx prog w (!byT w) D s.heap.objs.size (ye (λi=>ns.getD i "") B.size) /\
      (∀b o,b<s.heap.objs.size->s.heap.get? b=Z o->D.get? b=Z o)) E) bI.init.plain lu (check_set_init_1 hT ?_)) λT J j=>?_
    .have H:=hl.push { cls := .type "set",dict:=O,data := .set #[] 0 (.fresh 0 0 (!byT w)) };obtain⟨ol,zw,zy,nl,av⟩:=hl;obtain⟨cz,aZ,bv,ak⟩:=ol;simp only at zy av;subst zy;subst av;have cq:(s.heap.push { cls := .type "set",dict:=O,data := .set #[] 0 (.fresh 0 0 (!byT w)) }).get? l=_:=ae _ zw;have:=PySem.F.sub_tuple_set;have:=PySem.F.sub_tuple_frozenset;have:(Value.type "tuple"==Value.type "dict")=U:=by decide
     have:=l7;have:=ko;have:(Value.type "list"==Value.type "dict")=U:=by decide
     delta io.«set.__init__» noKeywords lE;generalize bz:lT=PI
     wp_walk
     subst bz
     (first | refine eG H (aa (gE ?_)) | refine gF H (aa (gE ?_)))
     have az:l<s.heap.objs.size:=aC zw;have u:A.in1.in1.in1.handled=O:=by simp[calm]
     have aq:l≠(s.heap.push { cls := .type "set",dict:=O,data := .set #[] 0 (.fresh 0 0 (!byT w)) }).objs.size:=by
      rw[bp];exact aM (bQ az)
     have bq:s.heap.objs.size∉[(s.heap.push { cls := .type "set",dict:=O,data := .set #[] 0 (.fresh 0 0 (!byT w)) }).objs.size,l]:=by
      rw[bp];intro z;rcases ap.mp z with z | z
      .exact absurd z (aM (cR _))
      .rw[am]at z;exact absurd z (fo az)
     have aj:∀(i:Nat)(v:Value),B[i]?=Z v->∃t,v = .str ((λi=>ns.getD i "") i) t:=λi v hv=>JR.str_at hi i v (by rw[cX];exact hv)
     (first | have W:=(λ_:kz _ _ _=>(Walks.tuple (prog:=prog) (w:=w) u _ l aq B).toS) H | have W:=(lZ (prog:=prog) (w:=w) u _ l aq B).toS)
     refine Qib (L := !byT w) W s.heap.objs.size bq (λi=>ns.getD i "") aj hb (B.size-0) 0 _ (by omega) (b9 _) ⟨⟨_,ar _ rfl,rfl,rfl⟩,H.push _⟩ ?Xj ?fin;case Xj=>exact yf (ae _ zx)
     case fin =>
      intro s' hm z;obtain⟨D,g',d',bj,bJ⟩:=s';obtain rfl:g'=s.gens:=hm.gens;obtain rfl:d'=s.drawn:=hm.drawn;obtain rfl:bJ=s.os:=hm.os;show aE _ _ _ _ _ _;refine af ?_;show aE _ _ (ret fj) _ _ _;refine af ⟨rfl,D,bj,rfl,z,λb o hb e=>?_⟩;refine hm.heap b o (λq=>?_) (ae _ (ae _ e));rw[bp]at q;rcases ap.mp q with q | q
      .exact absurd q (aM hb)
      .rw[am]at q;exact absurd q (aM (bQ hb))
    .cases T with
     |error e=>exact j
     |ok M =>
      cases M with
      |ret r =>
       obtain⟨rfl,D,tk,rfl,z,k⟩:=j;repeat (any_goals (first | assumption | wp_step))
       exact fin _ _ z k
      |_=>exact j.elim
   |_=>exact hr.elim)
end
def QfJ:x∈Yw M k↔x∈M\/x=k:=by
 delta Yw;split
 .rename_i h;exact⟨.inl,λq=>q.elim id λe=>e▸h⟩
 .simp
def QjF:∀(l M:List Str),M.Nodup->(l.foldl Yw M).Nodup/\∀x,x∈l.foldl Yw M↔x∈M\/x∈l:=by
 intro l;induction l with
 |nil =>
  intro M h;exact⟨h,λx=>by simp⟩
 |cons y l j =>
  intro M h;obtain⟨a,b⟩:=j (Yw M y) (XL h y);refine⟨a,λx=>?_⟩;rw[gN,b x,QfJ,ap];exact⟨λq=>q.elim (λq=>q.elim .inl λe=>.inr (.inl e)) λq=>.inr (.inr q),λq=>q.elim (λq=>.inl (.inl q)) λq=>q.elim (λe=>.inl (.inr e)) .inr⟩
def QdU:∀{xs:List Str},y∈o5 xs↔y∈xs:=by
 intro xs;induction xs with
 |nil =>
  simp[o5]
 |cons x xs j =>
  unfold o5;rw[ap,ap,aK,j];by_cases h:y=x<;>simp[h]
def Qgi:∀xs:List Str,(o5 xs).Nodup:=by
 intro xs;induction xs with
 |nil =>
  simp[o5]
 |cons x xs j =>
  unfold o5;rw[bL];exact⟨by simp[aK],eS _ (j)⟩
def QdR ns:(ye (λi=>ns.getD i "") ns.length).Perm (o5 ns):=by
 have e:(ai ns.length).map (λi=>ns.getD i "")=ns:=by
  apply eO;intro i;rw[aI];by_cases h:i<ns.length
  .simp[h]
  .rw[bg (by rw[ao];lia),bg (by lia)];rfl
 delta ye;rw[e];obtain⟨a,b⟩:=QjF ns [] .nil;exact(fJ a (Qgi ns)).mpr λx=>by rw[b x,QdU];simp
section
def ZK(X:Cx)(p:Addr)(M:List Str):HO := .ext λh=>Yx X.prog X.w (!byT X.w) h p M
def Qii:∀{xs:List Str}{us:List Value},o4 (xs.map V.str) us->JR us xs:=by
 intro xs;induction xs with
 |nil=>intro us h;cases h;trivial
 |cons x xs j=>intro us h;cases h with | cons q r=>exact⟨q,j r⟩
def QjP(hc:X.calm=Y):Yy X (.type "set") (λvs H Q=>∃(l:Addr)(ns:List Str),vs=[.ref l]/\qz X.K H l (ns.map V.str)/\ns.length<1000/\∀p M,H p=O->M.Perm (o5 ns)->Q (.ref p) (pf H p (ZK X p M))):=by
 intro B s T H vs us Q I rs h;obtain⟨l,ns,rfl,E,zw,q⟩:=h;obtain⟨u,rfl,J⟩:=Zx rs;cases J;obtain⟨t,D,L,_⟩:=I.tuple E;have j:=D.length;rw[ag]at j;refine(QfV (I.ok.hd hc) (by simpa using Qii D) (by simp only[aP];show t.length+1<4096;lia) λzy tk z k=>?_).1 L;have e:t.toArray.size=ns.length:=by simp only[aP];exact j.symm
 rw[e]at z;refine⟨.ref s.heap.objs.size,pf H s.heap.objs.size (ZK X s.heap.objs.size _),I.laid (t':=tk) (λb o q=>k b o (aC q) q) (au _) ⟨z,?_,λh1 h2 zx k1=>zx.at k1⟩,rfl,q _ _ I.fresh (QdR ns)⟩;obtain⟨o,_,_,_,ho,_⟩:=z;exact⟨o,ho⟩
def QbG:Yy X (.builtin "len") (λvs H Q=>∃(D:Addr)(M:List Str),vs=[.ref D]/\H D=Z (ZK X D M)/\Q (.int M.length) H):=by
 intro j s zy H vs us Q I rs h;obtain⟨D,M,rfl,l,q⟩:=h;obtain⟨u,rfl,B⟩:=Zx rs;cases B;obtain⟨z,_,_⟩:=I.hok D _ l;obtain⟨o,E,ep,t,ho,hex,hd,J,hm,L,hf,zx,T,zw⟩:=z;refine call_len_set ho hex hd hf (by have:E.size<4096:=L;lia) ⟨.int M.length,H,I.tok _,⟨_,by rw[zx]⟩,q⟩
def Ye{K:ab}:∀{xs:List PV}{ns:List Str}{vs:List V},strs? xs=Z ns->oP K F xs vs->vs=ns.map V.str:=by
 intro xs;induction xs with
 |nil =>
  intro ns vs h r;subst r;cases h;rfl
 |cons x xs l =>
  intro ns vs h r;obtain⟨v,t,rfl,u,B⟩:=r;cases x with
  |str y =>
   unfold strs? at h;cases j:strs? xs with
   |none=>rw[j]at h;cases h
   |some ss =>
    rw[j]at h;cases h;subst u;rw[l j B];rfl
  |_=>cases h
set_option tactic.hygienic true in
def uK(hc:X.calm=Y)(hg:Gl X "set")(hm:X.mg "set"=O)(zx:Gl X "len")(T:X.mg "len"=O)(ha:AM X ms [a] ma)(hs:ah [a] X.env=(U,eval a X.env)::ah [] X.env:=by rfl)(zw:(bA B (ah [] X.env)).any (·.1)=U:=by rfl)(D:ah [.Call (.Name "set" p1) [a] [] B] X.env=(U,eval (.Call (.Name "set" p1) [a] [] B) X.env)::ah [] X.env:=by rfl)(I:(bA L (ah [] X.env)).any (·.1)=U:=by rfl) :
  EM X ms (.Call (.Name "len" p2) [.Call (.Name "set" p1) [a] [] B] [] L) (Qb SW ma) :=
 PE.imp (Xe QbG zx T kj (YD (Zr (QjP hc) hg hm (by kernel_rfl) ha (by decide) (by decide) hs zw) Ce D) (by decide) (by decide) D I) λσ H Q zz=>by
  obtain⟨F,γ,r,k1,k2,j,w⟩:=zz;obtain⟨qs,e1,j⟩:=Qc j;refine⟨F,γ,qs,k1,k2,e1,λvs H1 u E J=>?_⟩;delta SW at j;split at j
  .obtain⟨v,t,rfl,J,qt⟩:=J;subst qt;obtain⟨l,us,rfl,sl,rl⟩:=J;split at j
   .rename_i ns zy;obtain⟨c1,rfl⟩:=Qi j;have e2:=Ye zy rl;subst e2;refine⟨l,ns,rfl,E.sub.seqT sl,c1,λp M hp hM=>?_⟩;refine⟨p,M,rfl,Qf,?_⟩;have g2:pd u H1 u (pf H1 p (ZK X p M)) := .side E.sub hp;rw[hM.length_eq];exact w _ _ u (E.trans g2) (Qp _)
   .cases j
  .cases j
end
section
def ON(l:Gl X x)(hm:∃t,X.mg x=Z (.int i t))(hd:(x=="__debug__")=U:=by decide):EM X [] (.Name x B) (mC (.int i)):=by
 obtain⟨t,h⟩:=hm;exact xZ l h hd
def OO(l:Gl X x)(hm:∃a,X.mg x=Z (.ref a)/\GT X.K a B)(hd:(x=="__debug__")=U:=by decide):EM X [] (.Name x D) (mC (.tup (B.map .str))):=by
 obtain⟨a,h1,h2⟩:=hm;exact x4 l h1 h2 hd
end
def tF(B E:Hp):Hp:=λb=>match B b with
 |some o=>Z o
 |none=>E b
def JS:Same B (tF B E):=λb o h=>by delta tF;rw[h]
def yg(n:B b=O)(h:E b=Z o):tF B E b=Z o:=by unfold tF;rw[n];exact h
def Xf(h:tF B E b=O):B b=O/\E b=O:=by
 grind[tF]
def S0(h1:B b=O)(h2:E b=O):tF B E b=O:=by unfold tF;rw[h1];exact h2
def OP(h:tF B E b=Z o):B b=Z o\/(B b=O/\E b=Z o):=by
 unfold tF at h;cases q:B b with
 |none=>rw[q]at h;exact .inr ⟨rfl,h⟩
 |some u=>rw[q]at h;exact .inl h
def Zz(l:oN)(j:Nat):Option Addr:=match l[j]? with
 |some (.fz (.opq a))=>Z a
 |_=>O
set_option tactic.hygienic true in
def XZ(h:Zz l j=Z a):l[j]?=Z (.fz (.opq a)):=by
 unfold Zz at h;split at h
 .rename_i b q;cases h;exact q
 .cases h
section
structure SX (K:ab) (P:Hp->Hp->Addr->τ->Prop) (j:Nat) (B F₀ F E:Hp) (a:Addr) (σ:St) (H:Hp) (γ:oN) (t:τ):Prop where
 sr:SR K (tF B E) F₀ F σ H γ
 at_:Zz γ j=Z a
 own:P F E a t
 db:∀b o,E b=Z o->B b=O
 df:∀b o,E b=Z o->F b=O
inductive Dl (τ:Type) where
 |nx (γ:oN) (t:τ) | rt (p:PV) | ro (xs:List PV) | bk (γ:oN) (t:τ) | ct (γ:oN) (t:τ)
abbrev MX l:=oN->l->Option (Dl l)
def JT(K:ab)(P:Hp->Hp->Addr->L->Prop)(j:Nat)(B l:Hp)(a:Addr)(D:wk):Dl L->Prop
 |.nx I t=>∀u H F E,SX K P j B l F E a u H I t->D.nx u H
 |.rt p=>∀v H F,pd l B F H->o3 K F p v->D.rt v H
 |.ro xs=>∀c vs H F,pd l B F H->B c=O->F c=O->H c=Z (.lst vs)->oP K F xs vs->D.rt (.ref c) H
 |.bk I t=>∀u H F E,SX K P j B l F E a u H I t->D.bk u H
 |.ct I t=>∀u H F E,SX K P j B l F E a u H I t->D.ct u H
def VE(K:ab)(P:Hp->Hp->Addr->I->Prop)(j:Nat)(m:MX I):TS:=λD J H=>∃B l F E a u t o,SX K P j B l F E a J H u t/\m u t=Z o/\JT K P j B l a D o
def XM(X:Cx)(P:Hp->Hp->Addr->l->Prop)(j:Nat)(st:Stmt)(m:MX l):Prop:=PS X st (VE X.K P j m)
def GO(X:Cx)(P:Hp->Hp->Addr->l->Prop)(j:Nat)(sts:List Stmt)(m:MX l):Prop:=PSs X sts (VE X.K P j m)
def OQ(P:Hp->Hp->Addr->l->Prop):Prop:=∀F j E a t,Same F j->P F E a t->P j E a t
def pd.offE(g:pd l (tF B E) F H):pd l B F H:=⟨g.ext,g.sub,JS.trans g.same,λb o e=>(g.new b o e).imp id λz=>(Xf z).1⟩
def SX.next{K:ab}{P:Hp->Hp->Addr->τ->Prop}{F:Hp}(S:SX K P j B l F E a σ H zx t)(mono:OQ P)(M:SR K (tF B E) l I L T D)(zw:Zz D j=Zz zx j)(zy:Same F I):SX K P j B l I E a L T D t:=by
 refine⟨M,zw.trans S.at_,mono _ _ _ _ _ zy S.own,S.db,λb o e=>?_⟩;cases q:I b with
 |none=>rfl
 |some u =>
  rcases M.fb b u q with z | z
  .have:=S.sr.f0 b u z;rw[S.df b o e]at this;cases this
  .rw[yg (S.db b o e) e]at z;cases z
end
section
def OR(j:Nat)(m:pW):MX B:=λu t=>(m u).bind λo=>match o with
 |.nx l=>if Zz l j=Zz u j then Z (.nx l t) else O
 |.rt p=>Z (.rt p)
 |.ro xs=>Z (.ro xs)
 |.bk l=>if Zz l j=Zz u j then Z (.bk l t) else O
 |.ct l=>if Zz l j=Zz u j then Z (.ct l t) else O
def Qmw{K:ab}{P:Hp->Hp->Addr->τ->Prop}(mono:OQ P)(h:VE K P j (OR j m) D T H):Om K m D T H:=by
 obtain⟨B,M,F,E,a,zw,t,o,S,e,ok⟩:=h;obtain⟨zx,e1,e⟩:=Qc e;refine⟨tF B E,F,F,zw,zx,S.sr.up S.sr.f0 (Same.refl _),e1,?_⟩;cases zx with
 |nx L =>
  obtain⟨c,rfl⟩:=Qi e;exact λl u I J=>ok l u I E (S.next mono (J.down S.sr.f0 S.sr.fb) c J.f0)
 |bk L =>
  obtain⟨c,rfl⟩:=Qi e;exact λl u I J=>ok l u I E (S.next mono (J.down S.sr.f0 S.sr.fb) c J.f0)
 |ct L =>
  obtain⟨c,rfl⟩:=Qi e;exact λl u I J=>ok l u I E (S.next mono (J.down S.sr.f0 S.sr.fb) c J.f0)
 |rt p =>
  cases e;exact λv u I g r=>ok v u I (g.down S.sr.f0 S.sr.fb).offE r
 |ro xs =>
  cases e;exact λc vs u I g n zy hH r=>ok c vs u I (g.down S.sr.f0 S.sr.fb).offE (Xf n).1 zy hH r
def Dm{X:Cx}{P:Hp->Hp->Addr->l->Prop}{st:Stmt}(mono:OQ P)(h:SM X st m):XM X P j st (OR j m):=PS.imp h λD t H q=>Qmw mono q
noncomputable def rZ(s1 s2:MX l):MX l:=λu t=>(s1 u t).bind λo=>match o with
 |.nx j t'=>s2 j t'
 |o=>Z o
variable{X:Cx}{P:Hp->Hp->Addr->τ->Prop}{j:Nat}{st:Stmt}{sts:List Stmt} in theorem xs_cons (h:XM X P j st s1) (hr:GO X P j sts s2):GO X P j (st::sts) (rZ s1 s2):=PSs.imp (pss_cons h hr) λD σ H zz=>by
 obtain⟨B,F₀,F,E,a,γ,t,o,S,e,ok⟩:=zz;obtain⟨o1,e1,e2⟩:=Qc e;refine⟨B,F₀,F,E,a,γ,t,o1,S,e1,?_⟩;cases o1 with
 |nx γ' t'=>exact λσ' H' F' E' S'=>⟨B,F₀,F',E',a,γ',t',o,S',e2,ok⟩
 |_=>cases e2;exact ok
def JU{X:Cx}{P:Hp->Hp->Addr->l->Prop}{st:Stmt}(h:XM X P j st s1):GO X P j [st] s1:=Z1 h
end
def XB{α:Type}[Decidable c]{a:Option α}{r:α}(h:(if c then a else O)=Z r):c/\a=Z r:=by
 by_cases z:c
 .rw[aw z]at h;exact⟨z,h⟩
 .rw[aN z]at h;cases h
def yh(K:ab)(E:Hp)(a:Addr):List (List PV)->List V->Prop
 |[],vs=>vs=[]
 |xs::r,vs=>∃h us t,vs = .ref h::t/\h≠a/\E h=Z (.lst us)/\oP K (λ_=>O) xs us/\yh K E a r t
def yh.length{K:ab}:∀{l:List (List PV)}{vs:List V},yh K E a l vs->vs.length=l.length:=by
 intro l;induction l with
 |nil =>
  intro _ h;subst h;rfl
 |cons xs r j =>
  intro _ h;obtain⟨h1,us,t,rfl,_,_,_,u⟩:=h;simp[j u]
section
theorem VF{K:ab}:∀{ks:List Str}{ps:List PV}{vs:List V}{p:PV},ks.length=vs.length->oP K F ps vs->(ks.zip ps).lookup f=Z p->∃v,(ks.zip vs).lookup f=Z v/\o3 K F p v
 |[],_,_,_,_,_,h=>by simp at h
 |k::ks,[],_,_,_,_,h=>by simp at h
 |k::ks,q::ps,vs,p,l,hr,h=>by
  obtain⟨v,t,rfl,h2,h3⟩:=hr;simp only[f7,bC]at h |-;cases j:f==k with
  |true =>
   rw[j]at h;cases h;exact⟨v,rfl,h2⟩
  |false =>
   rw[j]at h;exact VF (by simpa using l) h3 h
theorem VG:∀{ks:List Str}{vs:List V},ks.contains f=U->(ks.zip vs).lookup f=O
 |[],_,_=>by simp
 |k::ks,[],_=>by simp
 |k::ks,v::vs,h=>by
  rw[nc,mq]at h;simp only[f7,bC,h.1];exact VG h.2
def vH(C:Addr)(f:Str):PV->Option PV
 |.obj D ks ps=>if D=C then (ks.zip ps).lookup f else O
 |_=>O
def uL(C:Addr)(f:Str)(m:pI):pI:=λj=>(m j).bind (vH C f)
def JV(h:EM X ms o m)(hc:tZ X.K C)(B:BD X.K C f)(I:bY o f X.env (eval o X.env)=eval o X.env:=by rfl):EM X ms (.Attribute o f L) (uL C f m) :=
 PE.imp (wH h I) λσ H Q t=>by
  obtain⟨F,u,r,k1,k2,E,w⟩:=t;obtain⟨q,e1,e2⟩:=Qc E;refine⟨F,u,q,k1,k2,e1,λv H1 F1 j J=>?_⟩;cases q with
  |obj D ks ps =>
   have e2:(if D=C then (ks.zip ps).lookup f else O)=Z r:=e2;have M:D=C:=by
    by_cases z:D=C
    .exact z
    .rw[aN z]at e2;cases e2
   subst M;rw[aw rfl]at e2;obtain⟨a,zx,vs,rfl,h2,h3,T,zw⟩:=J;obtain⟨zy,l,rv⟩:=VF T zw e2;exact⟨a,D,zx,_,zy,rfl,j.sub _ _ h2,hc,B,l,w _ _ _ j rv⟩
  |_=>cases e2
def JW(C:Addr)(f:Str):PV->Bool
 |.obj D ks _=>(D==C) && !ks.contains f
 |_=>U
def S6(C:Addr)(f:Str)(g:List PV->Option PV)(m:pI)(l:oN->Option (List PV)):pI:=λj=>(m j).bind λq=>if JW C f q=Y then (l j).bind λps=>g (q::ps) else O
def Dn(h:JW C f q=Y):∃ks ps,q = .obj C ks ps/\ks.contains f=U:=by
 cases q with
 |obj D ks ps =>
  have h:((D==C) && !ks.contains f)=Y:=h;rw[aQ,a9]at h;obtain⟨rfl,h2⟩:=h;exact⟨ks,ps,rfl,by simpa using h2⟩
 |_=>cases h
def Do{zw:Sem Bool}{g:List PV->Option PV}(h:EM X ms o m)(hc:tZ X.K C)(hm:tv X.K C f zy)(F:FnOk X.prog X.w X.K X.mg X.base qh k zy fd ps (spM X.K n g))(hn:∀ps r,g ps=Z r->ps.length=n)(hr:o8 k X.A)(hb:ZJ X.K fd ps [])(ha:AM X ns (e::D) ma)(I:ah (e::D) X.env=(U,eval e X.env)::ah D X.env:=by rfl)(L:(bA l (ah D X.env)).any (·.1)=U:=by rfl)(ht:eval (.Call (.Attribute o f B) (e::D) [] l) X.env=(do
   let M <-eval o X.env
   iO B.atName
   let (f,first) <-holding [M] (gy M f zw)
   iY l f first (bA l (ah (e::D) X.env)) (dF l (cn [] X.env))):=by rfl) :
  EM X (ms++ns) (.Call (.Attribute o f B) (e::D) [] l) (S6 C f g m ma) :=
 PE.imp (QkU (E:=E0) h hc hm F hr hb .nil Gy ha I L ht) λσ H Q ⟨F,zx,r,k1,k2,j,w⟩=>by
  obtain⟨q,e1,j⟩:=Qc j;have c:JW C f q=Y:=by
   by_cases c:JW C f q=Y
   .exact c
   .rw[aN c]at j;cases j
  rw[aw c]at j;obtain⟨xs,e2,j⟩:=Qc j;obtain⟨ks,qs,rfl,hk⟩:=Dn c;refine⟨F,zx,_,k1,k2.left,e1,λv H1 F1 t u=>?_⟩;have q0:=u;unfold o3 at u;obtain⟨a,dx,vs,rfl,h2,h3,h4,h5⟩:=u;refine⟨a,dx,_,rfl,t.sub _ _ h2,VG hk,F1,zx,xs,t.sub,k2.right.mono t.ext,e2,λus H2 F2 J T=>?_⟩;rw[bB];exact⟨by have:=hn _ _ j;rw[aU]at this |-;rw[T.length];exact this,F2,_,r,J.sub,.cons (q0.mono J.ext) T,j,w.go (t.trans J)⟩
end
structure yi (F E H F' E' H':Hp):Prop where
 ext:Same F F'
 sub:Same F' H'
 esub:Same E' H'
 same:∀b o,H b=Z o->E b=O->H' b=Z o
 new:∀b o,F' b=Z o->F b=Z o\/H b=O\/E b≠O
 enew:∀b o,E' b=Z o->E b≠O\/H b=O
 dj:∀b o,E' b=Z o->F' b=O
section
def Dp(K:ab)(P:Hp->Hp->Addr->l->Prop)(n:Nat)(g:Addr->List PV->l->Option l):Sp:=λvs H Q _=>vs.length=n/\∃F E a t us qs t',vs = .ref a::us/\Same F H/\Same E H/\(∀b o,E b=Z o->F b=O)/\P F E a t/\oP K F qs us/\g a qs t=Z t' /\
 ∀j u B,yi F E H u B j->P u B a t'->Q .non j
def yj:Dl l->Option l
 |.nx _ t=>Z t
 |_=>O
def qA(N n:Nat)(m:MX l)(a:Addr)(qs:List PV)(t:l):Option l:=if qs.length+1=n then (m (Zp N (.opq a::qs)) t).bind yj else O
def r8(H E:Hp):Hp:=λb=>match E b with
 |none=>H b
 |some _=>O
def yk(h:r8 H E b=Z o):H b=Z o/\E b=O:=by
 delta r8 at h;cases q:E b with
 |none=>rw[q]at h;exact⟨h,rfl⟩
 |some u=>rw[q]at h;cases h
def QkZ(h:H b=Z o)(n:E b=O):r8 H E b=Z o:=by delta r8;rw[n];exact h
def S7(h:r8 H E b=O):E b≠O\/H b=O:=by
 delta r8 at h;cases q:E b with
 |none=>rw[q]at h;exact .inr h
 |some u=>exact .inl λz=>by cases z
def fnX{K:ab}{P:Hp->Hp->Addr->τ->Prop}{st:Stmt}(I:sO K x qual st f fd)(L:pB N ps (Qe st))(M:ps.length=n)(B:∀l A outer s H E,o8 k (A.deeper (fR qual (Qe st) s.heap.objs.size f l)) ->
   GO (qI qh zx w K mg base N qual (Qe st) f l A outer s H E).nox P 0 (Qn st) m):FnOk zx w K mg base qh (k+1) f fd ps (Dp K P n (qA N.length n m)):=by
 refine I.ok L (λvs H Q E h=>by rw[h.1,M]) λl A outer s H vs Q E hr h=>?_;refine⟨_,B l A outer s H E hr,?_⟩;obtain⟨J,F,G,a,t,us,qs,t',rfl,h1,h2,h3,zw,D,j,zy⟩:=h;delta qA at j;have hq:qs.length+1=n:=by rw[<-D.length];exact J
 rw[aw hq]at j;obtain⟨o,e1,e2⟩:=Qc j;have T:SR K H F F (Xj N (.ref a::us)) H (Zp N.length (.opq a::qs)):=Ot h1 (.cons (by rfl) D);have u:∀b o,tF (r8 H G) G b=Z o->H b=Z o:=λb o e=>by
  rcases OP e with z|⟨_,z⟩
  .exact(yk z).1
  .exact h2 b o z
 refine⟨r8 H G,F,F,G,a,_,t,o,⟨⟨T.sub,u,T.f0,λb o e=>.inl e,T.len,T.fz,λi xs e=>?_,T.dj⟩,?_,zw,λb o e=>?_,h3⟩,e1,?_⟩
 .obtain⟨c,vs,k1,k2,k3,k4,k5⟩:=T.ow i xs e;rw[k5]at k2;cases k2
 .rfl
 .delta r8;rw[e]
 .cases o with
  |nx γ t2 =>
   cases e2;intro av H' F' E' S;refine zy H' F' E' ⟨S.sr.f0,S.sr.sub,λb o e=>S.sr.base b o (yg (S.db b o e) e),λb o e n=>S.sr.base b o (JS b o (QkZ e n)),λb o e=>?_,λb o e=>S7 (S.db b o e),S.df⟩ S.own;rcases S.sr.fb b o e with z | z
   .exact .inl z
   .exact .inr ((S7 (Xf z).1).symm)
  |_=>cases e2
set_option tactic.hygienic true in
def Dq{i j:Nat}(h:B[j]?=Z (.fz p)):(PM.frz1 B i)[j]?=Z (.fz p):=by
 delta PM.frz1;split
 .rename_i ys e;by_cases l:i=j
  .subst l;rw[h]at e;cases e
  .rw[aD l];exact h
 .exact h
def VH:∀ms {l:oN} {j:Nat} {p:PV},l[j]?=Z (.fz p)->(PM.frz ms l)[j]?=Z (.fz p):=by
 intro ms;induction ms with
 |nil =>
  intro _ _ _ h;exact h
 |cons i ms t =>
  intro l j p h;exact t (Dq h)
def OS(P:Hp->Hp->Addr->B->Prop)(C:Addr)(m:Str)(l:B->Bool):Prop:=∀F E a t,l t=Y->P F E a t->∃j fs,E a=Z (.ins C j fs)/\fs.lookup m=O
def SX.called{K:ab}{P:Hp->Hp->Addr->τ->Prop}(T:SR K (tF B E) D zw zy H' zx)(L:Zz zx j=Z a)(l:∀b o,E b=Z o->B b=O)(G:yi zw E H' M I H2)(hp:P M I a t'):SX K P j B D M I a zy H2 zx t':=by
 have e0:∀b o,B b=Z o->E b=O:=λb o h=>by
  cases q:E b with
  |none=>rfl
  |some u=>rw[l b u q]at h;cases h
 refine⟨⟨G.sub,λb o e=>?_,T.f0.trans G.ext,λb o e=>?_,T.len,λi p e=>?_,λi ys e=>?_,T.dj⟩,L,hp,λb o e=>?_,G.dj⟩
 .rcases OP e with z|⟨J,H⟩
  .exact G.same b o (T.base b o (JS b o z)) (e0 b o z)
  .exact G.esub b o H
 .have t:I b=O:=by
   cases q:I b with
   |none=>rfl
   |some u=>rw[G.dj b u q]at e;cases e
  rcases G.new b o e with z | z | z
  .exact(T.fb b o z).imp id λy=>S0 (Xf y).1 t
  .exact .inr (S0 (Xf (T.base.free z)).1 t)
  .refine .inr (S0 ?_ t);cases q:E b with
   |none=>exact absurd q z
   |some u=>exact l b u q
 .obtain⟨v,k1,k2⟩:=T.fz i p e;exact⟨v,k1,k2.mono G.ext⟩
 .obtain⟨c,ts,k1,k2,k3,k4,k5⟩:=T.ow i ys e;obtain⟨J,H⟩:=Xf k5;refine⟨c,ts,k1,G.same c _ k2 H,k3.mono G.ext,?_,S0 J ?_⟩
  .cases q:M c with
   |none=>rfl
   |some u =>
    rcases G.new c u q with y | y | y
    .rw[k4]at y;cases y
    .rw[k2]at y;cases y
    .exact absurd H y
  .cases q:I c with
   |none=>rfl
   |some u =>
    rcases G.enew c u q with y | y
    .exact absurd H y
    .rw[k2]at y;cases y
 .rcases G.enew b o e with z | z
  .cases q:E b with
   |none=>exact absurd q z
   |some u=>exact l b u q
  .exact(Xf (T.base.free z)).1
def OU(j:Nat)(ms:List Nat)(l:B->Bool)(g:Addr->List PV->B->Option B)(D:oN->Option (List PV)):MX B:=λu t=>(D u).bind λqs=>(Zz u j).bind λa=>if l t=Y then (g a qs t).map λt'=>.nx (frz ms u) t' else O
def Ds{P:Hp->Hp->Addr->τ->Prop}{st:Stmt}(mono:OQ P)(zw:OS P C zy I)(hn:∀a qs t t',g a qs t=Z t'->qs.length+1=n)(ps:PS X st (MN (Gx C zy (Dp X.K P n g) [] av (qN j) (vc X.K ms ma)))):XM X P j st (OU j ms I g ma):=PS.imp ps λD σ H zz=>by
 obtain⟨B,J,F,E,a,L,t,o,S,e,ok⟩:=zz;obtain⟨qs,e1,e⟩:=Qc e;obtain⟨a',e2,e⟩:=Qc e;rw[S.at_]at e2;cases e2;obtain⟨hok,e⟩:=XB e;obtain⟨t',e3,rfl⟩:=Zi e;obtain⟨dx,fs,M,w2⟩:=zw _ _ _ _ hok S.own;obtain⟨v,hv,rv⟩:=S.sr.fz j _ (XZ S.at_);subst rv;have ha :=S.sr.base a _ (yg (S.db _ _ M) M);obtain⟨F1,zx,x1,er⟩:=S.sr.see ms;refine⟨.ref a,hv,a,dx,fs,rfl,ha,w2,F1,L,qs,zx.sub,er,e1,λus H' F' gr q=>?_⟩;rw[bB];have T:=zx.grow gr;have hE :=λb o e=>gr.same b o (S.sr.base b o (yg (S.db b o e) e));have l:Zz (PM.frz ms L) j=Z a:=by
  have:=VH ms (XZ S.at_);delta Zz;rw[this]
 have u :=S.next mono T (l.trans S.at_.symm) (x1.trans gr.ext)
 refine⟨by have:=hn _ _ _ _ e3;rw[aU,q.length];exact this,F',E,a,t,us,qs,t',rfl,gr.sub,hE,u.df,u.own,q,e3,λH2 F2 E2 G hp=>?_⟩;exact ok σ H2 F2 E2 (SX.called T l S.db G hp)
end
structure OT where
 ks:List Str
 ps:List PV
 mv:Option Nat
def BL(l:Str)(b:Addr):Option Nat->List (Str×V)
 |none=>[]
 |some _=>[(l,.ref b)]
def S8(E:Hp)(a l b:Addr):Option Nat->Prop
 |none=>True
 |some n=>b≠a/\b≠l/\∃ws,E b=Z (.lst ws)/\ws.length=n
def rP(K:ab)(C:Addr)(l:Str)(F E:Hp)(a:Addr)(t:OT):Prop:=∃j b vs,E a=Z (.ins C j (t.ks.zip vs++BL l b t.mv))/\E j=Z (.own a)/\j≠a/\t.ks.length=vs.length/\S8 E a j b t.mv/\oP K F t.ps vs
def qU K C l:OQ (rP K C l):=λ_ _ _ _ _ e j=>by obtain⟨t,b,vs,h1,h2,h3,u,B,D⟩:=j;exact⟨t,b,vs,h1,h2,h3,u,B,D.mono e⟩
def S9(C:Addr)(l:Str)(t:OT)(b:Addr):PV:=match t.mv with
 |none=>.obj C t.ks t.ps
 |some _=>.obj C (t.ks++[l]) (t.ps++[.opq b])
def QhZ{l:Str}{v:V}(h:ks.length=vs.length):(ks++[l]).zip (vs++[v])=ks.zip vs++[(l,v)]:=by
 rw[List.zip_append h];rfl
def Qjq{K:ab}(hE:∀b o,E b=Z o->F b=O)(h:rP K C B F E a t):∃b,o3 K (tF F E) (S9 C B t b) (.ref a):=by
 obtain⟨l,b,vs,h1,h2,h3,j,D,u⟩:=h;refine⟨b,?_⟩;delta S9;cases q:t.mv with
 |none =>
  rw[q]at h1;exact⟨a,l,vs,rfl,by rw[<-bB (t.ks.zip vs)];exact yg (hE _ _ h1) h1,yg (hE _ _ h2) h2,j,u.mono JS⟩
 |some n =>
  rw[q]at h1;refine⟨a,l,vs++[.ref b],rfl,?_,yg (hE _ _ h2) h2,by simp[j],(u.mono JS).snoc (by rfl)⟩;rw[QhZ j];exact yg (hE _ _ h1) h1
section
def ym{α:Type}(f:Addr->Option α):Option α:=open Classical in if h:∃k,∀b,f b=Z k then Z (n6 h) else O
def QiW(h:ym f=Z k) b:f b=Z k:=by
 delta ym at h;split at h;all_goals grind
def Dt(h:∀b,f b=Z k):ym f=Z k:=by
 unfold ym;have q:∃k,∀b,f b=Z k:=⟨k,h⟩
 rw[dif_pos q];have:=gC q 0;rw[h 0]at this;exact this.symm
end
def QmG(h1:Same F H)(h2:Same E H)(h3:∀b o,E b=Z o->F b=O)(hc:E c=Z l):yi F E H F (pf E c o) (pf H c o):=by
 have j:=h3 c l hc;refine⟨Same.refl _,λb u e=>?_,λb u e=>?_,λb u e n=>?_,λb u e=>.inl e,λb u e=>?_,λb u e=>?_⟩
 .rw[Qh (Qg e j)];exact h1 b u e
 .by_cases z:b=c
  .subst z;rw[Qf]at e |-;exact e
  .rw[Qh z]at e |-;exact h2 b u e
 .rw[Qh λz=>by subst z;rw[hc]at n;cases n];exact e
 .by_cases z:b=c
  .subst z;exact .inl (by rw[hc];exact λq=>by cases q)
  .rw[Qh z]at e;exact .inl (by rw[e];exact λq=>by cases q)
 .by_cases z:b=c
  .subst z;exact j
  .rw[Qh z]at e;exact h3 b u e
theorem Qio:∀{ks:List Str}{vs:List V}{i:Nat},ks.length=vs.length->ks[i]?=Z f->f∉ks.take i->pZ f y (ks.zip vs++tl)=ks.zip (vs.set i y)++tl
 |[],vs,i,_,h,_=>by simp at h
 |k::ks,[],i,h,_,_=>by simp at h
 |k::ks,v::vs,0,_,h,_=>by
  simp at h;subst h;simp[pZ]
 |k::ks,v::vs,i+1,l,h,j=>by
  rw[mD,ap,not_or]at j;have t:=Qio (y:=y) (tl:=tl) (by simpa using l) (by simpa using h) j.2;simp only[f7,m5,gD,pZ];rw[aN (λz=>j.1 z.symm),t]
theorem Qip:∀{ks:List Str}{vs:List V},ks.length=vs.length->f∉ks->pZ f y (ks.zip vs)=ks.zip vs++[(f,y)]
 |[],[],_,_=>rfl
 |[],_::_,h,_=>by simp at h
 |_::_,[],h,_=>by simp at h
 |k::ks,v::vs,h,j=>by
  rw[ap,not_or]at j;have l:=Qip (y:=y) (by simpa using h) j.2;simp only[f7,gD,pZ];rw[aN (λz=>j.1 z.symm),l]
section
def OV(ks:List Str)(f:Str):Option Nat:=ks.findIdx? (·==f)
def JX(f:Str)(r:PV)(t:OT):Option OT:=if t.ks.length<900 then match OV t.ks f with
 |some i=>Z ⟨t.ks,t.ps.set i r,t.mv⟩
 | none=>match t.mv with
  |none=>Z ⟨t.ks++[f],t.ps++[r],O⟩
  |some _=>O
 else O
def vh(ms:List Nat)(f:Str)(m:pI):MX OT:=λj t=>(m j).bind λr=>(JX f r t).map λt'=>.nx (frz ms j) t'
def Qgm(h:OV ks f=Z i):ks[i]?=Z f/\f∉ks.take i:=by
 delta OV at h;rw[ge]at h;obtain⟨h1,h2,h3⟩:=h;refine⟨by rw[aG h1,a9.mp h2],λz=>?_⟩;obtain⟨k,j,e⟩:=dH.mp z;rw[List.getElem_take]at e;rw[cS]at j;have:=h3 k (by lia);rw[e]at this;simp at this
def Qgn(h:OV ks f=O):f∉ks:=by
 delta OV at h;rw[hX]at h;intro z;have:=h f z;simp at this
set_option tactic.hygienic true in
def JY{K:ab}(B:JX f r t=Z t')(h1:E a=Z (.ins C l (t.ks.zip vs++BL D b t.mv)))(h2:E l=Z (.own a))(h3:l≠a)(I:t.ks.length=vs.length)(M:S8 E a l b t.mv)(L:oP K F t.ps vs)(hy:o3 K F r y) :
  (t.ks.zip vs++BL D b t.mv).length<1000/\rP K C D F (pf E a (.ins C l (pZ f y (t.ks.zip vs++BL D b t.mv)))) a t':=by
 obtain⟨zy,B⟩:=XB B;have hz:(t.ks.zip vs++BL D b t.mv).length<1000:=by
  rw[a0,List.length_zip];have:(BL D b t.mv).length<=1:=by cases t.mv<;>simp[BL]
  omega
 refine⟨hz,?_⟩;have u:pf E a (.ins C l (pZ f y (t.ks.zip vs++BL D b t.mv))) l=Z (.own a):=by rw[Qh h3];exact h2
 have j:∀mv,S8 E a l b mv->S8 (pf E a (.ins C l (pZ f y (t.ks.zip vs++BL D b t.mv)))) a l b mv:=λmv h=>by
  cases mv with
  |none=>trivial
  |some n =>
   obtain⟨J,zx,ws,T,zw⟩:=h;exact⟨J,zx,ws,by rw[Qh J];exact T,zw⟩
 split at B
 .rename_i i H;cases B;obtain⟨k1,k2⟩:=Qgm H;refine⟨l,b,vs.set i y,?_,u,h3,by rw[ot];exact I,j _ M,L.set i hy⟩;rw[Qf,Qio I k1 k2]
 .rename_i H;split at B
  .rename_i hm;cases B;refine⟨l,b,vs++[y],?_,u,h3,by simp[I],trivial,L.snoc hy⟩;rw[Qf,hm];show Z (HO.ins C l (pZ f y (t.ks.zip vs++[])))=Z (HO.ins C l ((t.ks++[f]).zip (vs++[y])++[]));rw[bB,bB,Qip I (Qgn H),QhZ I]
  .cases B
def Du{X:Cx}{st:Stmt}(hc:tZ X.K C)(M:BD X.K C f)(ps:PS X st (NJ X.K (qN j) (tM X.K ms m) f)):XM X (rP X.K C zx) j st (vh ms f m):=PS.imp ps λD zw H zy=>by
 obtain⟨B,I,F,E,a,J,t,o,S,e,ok⟩:=zy;obtain⟨r,e1,e⟩:=Qc e;obtain⟨t',e2,rfl⟩:=Zi e;obtain⟨v,hv,rv⟩:=S.sr.fz j _ (XZ S.at_);subst rv;obtain⟨F1,L,x1,er⟩:=S.sr.see ms;refine⟨F1,J,r,L.sub,er,e1,λy H' F' gr q=>?_⟩;have T:=L.grow gr;have l:Zz (PM.frz ms J) j=Z a:=by
  have:=VH ms (XZ S.at_);delta Zz;rw[this]
 have u:=S.next (qU X.K C zx) T (l.trans S.at_.symm) (x1.trans gr.ext)
 have hE :=λb o e=>gr.same b o (S.sr.base b o (yg (S.db b o e) e));obtain⟨dx,b,vs,h1,h2,h3,h4,h5,h6⟩:=u.own;obtain⟨hz,hp⟩:=JY e2 h1 h2 h3 h4 h5 h6 q;refine⟨.ref a,hv,a,C,dx,_,rfl,hE _ _ h1,hc,M,hz,?_⟩;exact ok zw _ F' _ (SX.called T l S.db (QmG gr.sub hE u.df h1) hp)
end
section
def Dv ms (h:Zz l j=Z a):Zz (PM.frz ms l) j=Z a:=by
 have:=VH ms (XZ h);delta Zz;rw[this]
end
section
def Ta(l m:Str)(t:OT):Bool := !t.ks.contains m && !(m==l)
def yn{K:ab}:OS (rP K C l) C m (Ta l m):=λF E a t hok j=>by
 obtain⟨u,b,vs,h1,h2,h3,D,H,I⟩:=j;delta Ta at hok;rw[aQ,gu,gu]at hok;refine⟨u,_,h1,?_⟩;have key:∀(ks:List Str) vs (tl:List (Str×V)),ks.contains m=U->tl.lookup m=O->(ks.zip vs++tl).lookup m=O:=by
  intro ks;induction ks with
  |nil=>intro vs tl _ h;simpa using h
  |cons k ks B =>
   intro vs tl hc h;rw[nc,mq]at hc;cases vs with
   |nil=>simpa using h
   |cons v vs =>
    simp only[f7,gD,bC,hc.1];exact B vs tl hc.2 h
 refine key _ _ _ hok.1 ?_;cases t.mv with
 |none=>rfl
 |some n=>simp only[BL,bC,hok.2,List.lookup_nil]
end
section
def SX.up{D:Type}{K:ab}{P:Hp->Hp->Addr->D->Prop}{j:Nat}{t:D}(S:SX K P j B l F E a L H M t)(e1:Same l I)(e:Same I F):SX K P j B I F E a L H M t:=⟨S.sr.up e1 e,S.at_,S.own,S.db,S.df⟩
end
def JZ(P:bh)(w:cg)(K:ab)(mg:Str->Option Value)(base:Heap)(k:Nat)(C:Addr)(m:Str)(n:Nat)(g:List PV->Option PV):Prop :=
 ∃f fd ps,FnOk P w K mg base qh k f fd ps (spM K n g)/\tZ K C/\tv K C m f/\ZJ K fd ps []
def J0(P:bh)(w:cg)(K:ab)(mg:Str->Option Value)(base:Heap)(k:Nat)(C:Addr)(l m:Str)(n:Nat)(g:Addr->List PV->OT->Option OT):Prop :=
 ∃f fd ps,FnOk P w K mg base qh k f fd ps (Dp K (rP K C l) n g)/\tZ K C/\tv K C m f/\ZJ K fd ps []
def J1(P:bh)(w:cg)(K:ab)(mg:Str->Option Value)(base:Heap)(k:Nat)(C:Addr)(l x:Str)(n:Nat)(g:Addr->List PV->OT->Option OT):Prop :=
 ∃f fd ps,FnOk P w K mg base qh k f fd ps (Dp K (rP K C l) n g)/\Mk K C f/\mg x=Z (.ref C)/\ZJ K fd ps []
def yo(K:ab)(C:Addr)(f:Str):Prop:=tZ K C/\BD K C f
def sA{l:Type}{N n:Nat}{m:MX l}:∀a qs t t',qA N n m a qs t=Z t'->qs.length+1=n:=λa qs t t' h=>by
 delta qA at h;by_cases c:qs.length+1=n
 .exact c
 .rw[aN c]at h;cases h
def trueOn:List PV->Option PV:=λqs=>open Classical in if ∃ns:List Int,ns.length<=63/\qs=[.lst (ns.map .int)] then Z (.bl Y) else O
def trueOn_ok(ns:List Int)(h:ns.length<=63):trueOn [.lst (ns.map .int)]=Z (.bl Y):=aw ⟨ns,h,rfl⟩
def trueOn_get{g:List PV->Option PV}(h:∀ns:List Int,ns.length<=63->g [.lst (ns.map .int)]=Z (.bl Y))(e:trueOn qs=Z r):g qs=Z r:=by
 delta trueOn at e;split at e;all_goals grind
section
def J2{T:Sem Bool}{g:List PV->Option PV}(h:EM X ms o zw)(c:JZ X.prog X.w X.K X.mg X.base k C I n g)(zy:∀ps r,g ps=Z r->ps.length=n)(hr:o8 k X.A)(ha:AM X ns (e::D) ma)(L:ah (e::D) X.env=(U,eval e X.env)::ah D X.env:=by rfl)(M:(bA l (ah D X.env)).any (·.1)=U:=by rfl)(ht:eval (.Call (.Attribute o I B) (e::D) [] l) X.env=(do
   let zx <-eval o X.env
   iO B.atName
   let (f,first) <-holding [zx] (gy zx I T)
   iY l f first (bA l (ah (e::D) X.env)) (dF l (cn [] X.env))):=by rfl) :
  EM X (ms++ns) (.Call (.Attribute o I B) (e::D) [] l) (S6 C I g zw ma):=by
 obtain⟨f,fd,ps,F,hc,hm,j⟩:=c;exact Do h hc hm F zy hr j ha L M ht
def OW(h:EM X ms o l)(c:yo X.K C f)(B:bY o f X.env (eval o X.env)=eval o X.env:=by rfl):EM X ms (.Attribute o f D) (uL C f l):=JV h c.1 c.2 B
def OX(zy:PE X (.Name x p2) (qN j))(c:J0 X.prog X.w X.K X.mg X.base k C L I n g)(hn:∀a qs t t',g a qs t=Z t'->qs.length+1=n)(hr:o8 k X.A)(ha:AM X ms (e::D) ma)(M:ah (e::D) X.env=(U,eval e X.env)::ah D X.env:=by rfl)(zx:(bA l (ah D X.env)).any (·.1)=U:=by rfl)(ht:eval (.Call (.Attribute (.Name x p2) I B) (e::D) [] l) X.env=(do
   let zw <-eval (.Name x p2) X.env
   iO B.atName
   let (f,first) <-holding [zw] (gy zw I pl)
   iY l f first (bA l (ah (e::D) X.env)) (dF l (cn [] X.env))):=by rfl)(hs:c7 (.Call (.Attribute (.Name x p2) I B) (e::D) [] l) O T.line X.env=pure U:=by rfl) :
  XM X (rP X.K C L) j (.Expr (.Call (.Attribute (.Name x p2) I B) (e::D) [] l) T) (OU j ms (Ta L I) g ma):=by
 obtain⟨f,fd,ps,F,hc,hm,u⟩:=c;exact Ds (qU X.K C L) yn hn (MO (QkU zy hc hm F hr u .nil Gy ha M zx ht) hs)
def OY(D:PE X (.Name x B) (qN j))(c:yo X.K C f)(h:EM X ms e m)(hs:c7 e (Z (.Attribute (.Name x B) f p2)) l.line X.env=pure U:=by rfl):XM X (rP X.K C I) j (.Assign [.Attribute (.Name x B) f p2] e l) (vh ms f m) :=
 Du c.1 c.2 (Ie D h hs)
end
noncomputable def VI(l:List Addr)(i:Nat):Addr:=l.getD i 0
def mkK(C:Addr)(t:OT):Option PV:=match t.mv with
 |none=>Z (.obj C t.ks t.ps)
 |some _=>O
def tG(C:Addr)(g:Addr->List PV->OT->Option OT)(l:oN->Option (List PV)):pI:=λj=>(l j).bind λqs=>(ym λa=>g a qs ⟨[],[],O⟩).bind (mkK C)
def J3(l:List Addr)(f:Str):PV->Option PV
 |.obj D ks ps=>if l.contains D=Y then (ks.zip ps).lookup f else O
 |_=>O
def yp(l:List Addr)(f:Str)(m:pI):pI:=λj=>(m j).bind (J3 l f)
def yq(l:List (Addr×(List PV->Option PV)))(f:Str):PV->Option (List PV->Option PV)
 |.obj D ks _=>if ks.contains f=U then l.lookup D else O
 |_=>O
def VJ(l:List (Addr×(List PV->Option PV)))(f:Str)(m:pI)(B:oN->Option (List PV)):pI:=λj=>(m j).bind λq=>(yq l f q).bind λg=>(B j).bind λps=>g (q::ps)
def yr(g:Addr->List PV->OT->Option OT)(a:Addr)(t:OT):List PV->Option OT
 |.opq b::rs=>if b=a then g a rs t else O
 |_=>O
def GP(j:Nat)(ms:List Nat)(g:Addr->List PV->OT->Option OT)(B:oN->Option (List PV)):MX OT:=λl t=>(B l).bind λqs=>(Zz l j).bind λa=>(yr g a t qs).map λt'=>.nx (frz ms l) t'
def J4{P:Addr->α->Prop}:∀D g,[].lookup D=Z g->P D g:=λD g h=>by simp at h
def Tb{α:Type}{P:Addr->α->Prop}{x:α}{t:List (Addr×α)}(h1:P a x)(h2:∀D g,t.lookup D=Z g->P D g):∀D g,((a,x)::t).lookup D=Z g->P D g:=λD g h=>by
 rw[bC]at h;cases q:D==a with
 |true =>
  rw[q]at h;cases h;rw[a9.mp q];exact h1
 |false=>rw[q]at h;exact h2 D g h
def VL(X:Cx)(C:Addr)(m:Str)(n:Nat)(g:List PV->Option PV):Prop:=∃k,JZ X.prog X.w X.K X.mg X.base k C m n g/\o8 k X.A
def OZ(P:bh)(w:cg)(K:ab)(mg:Str->Option Value)(base:Heap)(k:Nat)(C:Addr)(l x m:Str)(n:Nat)(g:Addr->List PV->OT->Option OT):Prop :=
 ∃f fd ps B,FnOk P w K mg base qh k f fd ps (Dp K (rP K C l) n g)/\mg x=Z (.ref B)/\ny K (.ref B) "__getattribute__"=Z (Z (.builtin "type.__getattribute__"))/\oj K B (.type "type")=Y /\
  on K (.ref B) (.type "type") m=Z (.val (.ref f))/\b7 K (.ref f)=Y/\ZJ K fd ps []
section
def J5{g:Addr->List PV->OT->Option OT}(c:J1 X.prog X.w X.K X.mg X.base k C km x n g)(hn:∀a qs t t',g a qs t=Z t'->qs.length+1=n)(hr:o8 (k+1) X.A)(hg:Gl X x)(ha:AM X ms (e::T) ma)(zw:(x=="__debug__")=U:=by decide)(he:ah (e::T) X.env=(U,eval e X.env)::ah T X.env:=by rfl)(zy:(bA L (ah T X.env)).any (·.1)=U:=by rfl) :
  EM X ms (.Call (.Name x p) (e::T) [] L) (tG C g ma):=by
 obtain⟨f,fd,ps,F,M,hm,av⟩:=c;refine PE.imp (Cf M F hr hg hm av .nil Gy ha zw he zy) λσ H Q zz=>?_;obtain⟨F,γ,r,k1,k2,k3,w⟩:=zz;obtain⟨qs,e1,k3⟩:=Qc k3;obtain⟨t,e2,e3⟩:=Qc k3;refine⟨F,γ,qs,k1,k2,e1,λus J F' gr q x l nx zx B=>?_⟩;rw[bB];generalize D:pf (pf J l (.own x)) x (.ins C l [])=Hn;generalize I:pf (pf (λ_=>O) l (.own x)) x (HO.ins C l [])=E;have sH:Same J Hn:=λb u e=>by
  rw[<-D,Qh (Qg e nx),Qh (Qg e zx)];exact e
 have Ex:E x=Z (.ins C l []):=by rw[<-I];exact Qf
 have Ed:E l=Z (.own x):=by rw[<-I,Qh B];exact Qf
 have Eg:∀b u,E b=Z u->b=x\/b=l:=λb u e=>by
  by_cases z1:b=x
  .exact .inl z1
  by_cases z2:b=l
  .exact .inr z2
  rw[<-I,Qh z1,Qh z2]at e;cases e
 have sE:Same E Hn:=λb u e=>by
  rcases Eg b u e with rfl | rfl
  .rw[Ex]at e;cases e;rw[<-D];exact Qf
  .rw[Ed]at e;cases e;rw[<-D,Qh B];exact Qf
 have nE:∀b u,J b=Z u->E b=O:=λb u e=>by
  cases y:E b with
  |none=>rfl
  |some w =>
   rcases Eg b w y with rfl | rfl
   .rw[nx]at e;cases e
   .rw[zx]at e;cases e
 have Edis:∀b u,E b=Z u->F' b=O:=λb u e=>by
  cases y:F' b with
  |none=>rfl
  |some w=>rw[nE b w (gr.sub b w y)]at e;cases e
 have az:=hn _ _ _ _ (QiW e2 x);have free:∀b,J b=O->H b=O:=λb e=>by
  cases y:H b with
  |none=>rfl
  |some u=>rw[gr.same b u y]at e;cases e
 have j:∀b,(E b≠O\/Hn b=O)->H b=O:=λb e=>by
  refine free b ?_;cases y:J b with
  |none=>rfl
  |some u =>
   rcases e with z | z
   .exact absurd (nE b u y) z
   .rw[sH b u y]at z;cases z
 refine⟨by rw[aU,q.length];exact az,F',E,x,⟨[],[],O⟩,us,qs,t,rfl,gr.sub.trans sH,sE,Edis,⟨l,x,[],Ex,Ed,B,rfl,trivial,.nil⟩,q,QiW e2 x,λH2 F2 E2 G hp=>⟨rfl,?_⟩⟩;obtain⟨b,hb⟩:=Qjq G.dj hp;have er:S9 C km t b=r:=by
  delta mkK at e3;delta S9;revert e3;cases t.mv with
  |none=>intro e3;exact bi e3
  |some n=>intro e3;cases e3
 rw[er]at hb;refine w (.ref x) H2 (tF F2 E2) ⟨λb u e=>JS b u (G.ext b u (gr.ext b u e)),λb u e=>?_,λb u e=>?_,λb u e=>?_⟩ hb
 .rcases OP e with z|⟨_,z⟩
  .exact G.sub b u z
  .exact G.esub b u z
 .have:=gr.same b u e;exact G.same b u (sH b u this) (nE b u this)
 .rcases OP e with z|⟨_,z⟩
  .rcases G.new b u z with y | y | y
   .exact gr.new b u y
   .exact .inr (j b (.inr y))
   .exact .inr (j b (.inl y))
  .exact .inr (j b (G.enew b u z))
def Dw(h:EM X ms o m)(B:∀D,D∈I->yo X.K D f)(L:bY o f X.env (eval o X.env)=eval o X.env:=by rfl):EM X ms (.Attribute o f M) (yp I f m) :=
 PE.imp (wH h L) λσ H Q t=>by
  obtain⟨F,u,r,k1,k2,E,w⟩:=t;obtain⟨q,e1,e2⟩:=Qc E;refine⟨F,u,q,k1,k2,e1,λv H1 F1 j J=>?_⟩;cases q with
  |obj D ks ps =>
   obtain⟨zx,e2⟩:=XB (e2);obtain⟨hc,T⟩:=B D (by simpa using zx);obtain⟨a,zw,vs,rfl,h2,h3,zy,h5⟩:=J;obtain⟨v',l,rv⟩:=VF zy h5 e2;exact⟨a,D,zw,_,v',rfl,j.sub _ _ h2,hc,T,l,w _ _ _ j rv⟩
  |_=>cases e2
def J6(X:Cx)(m:Str)(B:TE)(t:TA):TE:=λj H Q=>B j H λx l=>∃a C u fs f fd ps sp k,x = .ref a/\l a=Z (.ins C u fs)/\fs.lookup m=O/\tZ X.K C/\tv X.K C m f/\FnOk X.prog X.w X.K X.mg X.base qh k f fd ps sp/\o8 k X.A/\ZJ X.K fd ps [] /\
 t j l λvs D=>sp (.ref a::(vs++[])) D Q E0
def yt(he:PE X o ta)(ha:PA X (e::L) t)(M:ah (e::L) X.env=(U,eval e X.env)::ah L X.env:=by rfl)(zx:(bA B (ah L X.env)).any (·.1)=U:=by rfl)(ht:eval (.Call (.Attribute o T D) (e::L) [] B) X.env=(do
   let zw <-eval o X.env
   iO D.atName
   let (f,first) <-holding [zw] (gy zw T pl)
   iY B f first (bA B (ah (e::L) X.env)) (dF B (cn [] X.env))):=by rfl) :
  PE X (.Call (.Attribute o T D) (e::L) [] B) (J6 X T ta t):=by
 intro j s E H Q I h;refine iW (pA (he j s E H _ I h) λu s1 zz=>?_) ht;obtain⟨x,H1,J,rx,a,C,dx,fs,f,fd,ps,sp,k,ex,ea,l,c,hm,F,hr,hb,q⟩:=zz;subst ex;obtain rfl:u=d4 a:=rx;refine QdZ J ea c hm l ?_;refine fZ I.ok.mod.kin hm.kp (pA (ha B j s1 E H1 _ J q) λus s2 ⟨vs,H2,zy,r,q2⟩=>⟨zy.kIn,?_⟩) M zx;exact So (vs := .ref a::vs) F hr hb .nil Gy zy (.cons rfl r) q2
def yu(h:yq l f q=Z g):∃D ks ps,q = .obj D ks ps/\ks.contains f=U/\l.lookup D=Z g:=by
 cases q with
 |obj D ks ps =>
  obtain⟨h1,h2⟩:=XB (h);exact⟨D,ks,ps,rfl,h1,h2⟩
 |_=>cases h
def yw(h:EM X ms o mo)(L:∀D g,zx.lookup D=Z g->VL X D M n g/\∀ps r,g ps=Z r->ps.length=n)(ha:AM X ns (e::I) ma)(T:ah (e::I) X.env=(U,eval e X.env)::ah I X.env:=by rfl)(zw:(bA l (ah I X.env)).any (·.1)=U:=by rfl)(ht:eval (.Call (.Attribute o M B) (e::I) [] l) X.env=(do
   let zy <-eval o X.env
   iO B.atName
   let (f,first) <-holding [zy] (gy zy M pl)
   iY l f first (bA l (ah (e::I) X.env)) (dF l (cn [] X.env))):=by rfl) :
  EM X (ms++ns) (.Call (.Attribute o M B) (e::I) [] l) (VJ zx M mo ma) :=
 PE.imp (yt h ha T zw ht) λσ H Q zz=>by
  obtain⟨F,E,r,k1,k2,j,w⟩:=zz;obtain⟨q,e1,j⟩:=Qc j;obtain⟨g,e4,j⟩:=Qc j;obtain⟨xs,e2,j⟩:=Qc j;obtain⟨D,ks,qs,rfl,hk,hl⟩:=yu e4;obtain⟨⟨k,⟨fa,fd,ps,FO,hc,hm,hb⟩,hr⟩,hn⟩:=L D g hl;refine⟨F,E,_,k1,k2.left,e1,λv H1 F1 t J=>?_⟩;have q0:=J;obtain⟨a,dx,vs,rfl,h2,h3,h4,h5⟩:=J;refine⟨a,D,dx,_,fa,fd,ps,_,k,rfl,t.sub _ _ h2,VG hk,hc,hm,FO,hr,hb,F1,E,xs,t.sub,k2.right.mono t.ext,e2,λus H2 F2 u q2=>?_⟩;rw[bB];exact⟨by have:=hn _ _ j;rw[aU]at this |-;rw[q2.length];exact this,F2,_,r,u.sub,.cons (q0.mono u.ext) q2,j,w.go (t.trans u)⟩
def J7(F:FnOk X.prog X.w X.K X.mg X.base qh k fa fd ps sp)(hr:o8 k X.A)(hg:Gl X x)(hm:X.mg x=Z (.ref B))(h1:ny X.K (.ref B) "__getattribute__"=Z (Z (.builtin "type.__getattribute__")))(h2:oj X.K B (.type "type")=Y)(h3:on X.K (.ref B) (.type "type") M=Z (.val (.ref fa)))(hk:b7 X.K (.ref fa)=Y)(hb:ZJ X.K fd ps [])(ha:PA X (e::L) t)(zx:(x=="__debug__")=U:=by decide)(T:ah (e::L) X.env=(U,eval e X.env)::ah L X.env:=by rfl)(zw:(bA l (ah L X.env)).any (·.1)=U:=by rfl)(ht:eval (.Call (.Attribute (.Name x p) M D) (e::L) [] l) X.env=(do
   let ov <-eval (.Name x p) X.env
   iO D.atName
   let (f,first) <-holding [ov] (gy ov M pl)
   iY l f first (bA l (ah (e::L) X.env)) (dF l (cn [] X.env))):=by rfl) :
  PE X (.Call (.Attribute (.Name x p) M D) (e::L) [] l) (MS sp [] E0 t):=by
 intro j s E H Q I h;refine iW (pA (UD (v := .ref B) hg hm rfl zx j s E H (λv J=>v = .ref B/\MS sp [] E0 t E J Q) I ⟨rfl,h⟩) λu s1 zz=>?_) ht;obtain⟨x,J,zy,rx,ex,q⟩:=zz;subst ex;obtain rfl:u=d4 B:=rx;refine PySem.W.method_cls zy.kIn h1 (PySem.W.cls_value zy.kIn h2 h3 rfl ?_);have I2:=zy.tok (s1.toks+1);refine fZ I.ok.mod.kin hk (pA (ha l j _ E J _ I2 q) λus s2 ⟨vs,H2,I3,r,q2⟩=>⟨I3.kIn,?_⟩) T zw;exact So F hr hb .nil Gy I3 r q2
set_option tactic.hygienic true in
def Qnm(h:yr g a t qs=Z t'):∃rs,qs = .opq a::rs/\g a rs t=Z t':=by
 delta yr at h;split at h
 .rename_i b rs;obtain⟨rfl,h⟩:=XB h;exact⟨rs,rfl,h⟩
 .cases h
def Dx{st:Stmt}(zx:∀a qs t t',g a qs t=Z t'->qs.length+1=n)(ps:PS X st (MN (MS (Dp X.K (rP X.K C I) n g) [] zw (vc X.K ms zy)))):XM X (rP X.K C I) j st (GP j ms g zy):=PS.imp ps λD σ H zz=>by
 obtain⟨B,J,F,E,a,γ,t,o,S,e,ok⟩:=zz;obtain⟨qs,e1,e⟩:=Qc e;obtain⟨a',e2,e⟩:=Qc e;rw[S.at_]at e2;cases e2;obtain⟨t',e3,rfl⟩:=Zi e;obtain⟨rs,rfl,L⟩:=Qnm e3;obtain⟨F1,M,x1,er⟩:=S.sr.see ms;refine⟨F1,γ,_,M.sub,er,e1,λus H' F' gr q=>?_⟩;rw[bB];obtain⟨v,us,rfl,q1,q⟩:=q;subst q1;have T:=M.grow gr;have hE :=λb o e=>gr.same b o (S.sr.base b o (yg (S.db b o e) e));have l:=Dv ms S.at_;have u:=S.next (qU X.K C I) T (l.trans S.at_.symm) (x1.trans gr.ext)
 refine⟨by have:=zx _ _ _ _ L;rw[aU,q.length];exact this,F',E,_,t,us,rs,t',rfl,gr.sub,hE,u.df,u.own,q,L,λH2 F2 E2 G hp=>?_⟩;exact ok σ H2 F2 E2 (SX.called T l S.db G hp)
def O0(c:OZ X.prog X.w X.K X.mg X.base k C km x L n g)(hn:∀a qs t t',g a qs t=Z t'->qs.length+1=n)(hr:o8 k X.A)(hg:Gl X x)(ha:AM X ms (e::I) ma)(M:(x=="__debug__")=U:=by decide)(zx:ah (e::I) X.env=(U,eval e X.env)::ah I X.env:=by rfl)(T:(bA l (ah I X.env)).any (·.1)=U:=by rfl)(ht:eval (.Call (.Attribute (.Name x p2) L D) (e::I) [] l) X.env=(do
   let zy <-eval (.Name x p2) X.env
   iO D.atName
   let (f,first) <-holding [zy] (gy zy L pl)
   iY l f first (bA l (ah (e::I) X.env)) (dF l (cn [] X.env))):=by rfl)(hs:c7 (.Call (.Attribute (.Name x p2) L D) (e::I) [] l) O zw.line X.env=pure U:=by rfl) :
  XM X (rP X.K C km) j (.Expr (.Call (.Attribute (.Name x p2) L D) (e::I) [] l) zw) (GP j ms g ma):=by
 obtain⟨f,fd,ps,B,F,hm,h1,h2,h3,u,E⟩:=c;exact Dx hn (MO (J7 F hr hg hm h1 h2 h3 u E ha M zx T ht) hs)
end
def Tc:List PV->Option (List PV)
 |[.tup xs,.tup ys]=>Z (lA (λx y=>.tup [x,y]) xs ys)
 |_=>O
abbrev O1(h:Heap)(a:Addr):Heap:=h.push { cls := .type "tuple_iterator",data := .fields #[.ref a,.int 0 0] }
abbrev GQ(h:Heap)(a c:Addr):Heap:=(O1 h a).push { cls := .type "tuple_iterator",data := .fields #[.ref c,.int 0 0] }
abbrev O2(h:Heap)(a c:Addr):Heap:=(GQ h a c).push { cls := .type "tuple",data := .seq #[.ref h.objs.size,.ref (O1 h a).objs.size] }
abbrev O3(h:Heap)(a c:Addr):Heap:=(O2 h a c).push { cls := .type "tuple",data := .seq #[.none,.none] }
abbrev BM(h:Heap)(a c:Addr):Heap:=(O3 h a c).push { cls := .type "zip",data := .fields #[.none,.bool U,.bool U,.ref (GQ h a c).objs.size,.ref (O2 h a c).objs.size] }
def QhE(a c:Addr)(xs ys:Array Value) :
  Meets (io.«zip.__new__» ⟨[.type "zip",.ref a,.ref c],[]⟩) (λ_ R s=>s.heap.IsTuple a xs/\s.heap.IsTuple c ys/\R (.ok (.ret (.ref (O3 s.heap a c).objs.size))) { s with heap:=BM s.heap a c }) :=
 .of_wp λprog w A R s h=>by
  obtain⟨j,g,d,tk,os⟩:=s;obtain⟨l,hc,h⟩:=h;have sub:=sub_zip;have t:kz (oG ⟨j,g,d,tk,os⟩) a xs:=l;have u:kz (oG ⟨j.push { cls := .type "tuple_iterator",data := .fields #[.ref a,.int 0 0] },g,d,tk,os⟩) c ys:=hc.at λo q=>ae _ q
  wp_walk using eG t,eG u
  exact⟨_,rfl,h⟩
def QjO{prog:bh}{w:cg}{A:dI}{E:Value->aH->Prop}{s:aH}{a c:Addr}{xs ys:Array Value}{Q:Value->aH->Prop}(zw:s.heap.IsTuple a xs)(hc:s.heap.IsTuple c ys)(fin:∀l,iH l (s.heap.objs.size+4) (s.heap.objs.size+2) (s.heap.objs.size+3) .none->fk l (s.heap.objs.size+2) (.ref s.heap.objs.size) (.ref (s.heap.objs.size+1))->fk l (s.heap.objs.size+3) .none .none ->
   l.IsTupleIter s.heap.objs.size a 0->l.IsTupleIter (s.heap.objs.size+1) c 0->(∀d o,s.heap.get? d=Z o->l.get? d=Z o)->Q (.ref (s.heap.objs.size+4)) { s with heap:=l }) :
  aE (model prog w) A (call (.type "zip") [.ref a,.ref c]) Q E s:=by
 refine nR F.called_zip (by decide) (F.typeCall_zip_2 _ _) (F.newCall_zip_2 _ _) (λobj=>F.args_object_init_3 obj _ _) F.entry_zip_new (QhE a c xs ys) ⟨zw,hc,?_⟩;have D:(O1 s.heap a).objs.size=s.heap.objs.size+1:=bp ..;have H:(GQ s.heap a c).objs.size=s.heap.objs.size+2:=by rw[bp,D]
 have I:(O2 s.heap a c).objs.size=s.heap.objs.size+3:=by rw[bp,H]
 have L:(O3 s.heap a c).objs.size=s.heap.objs.size+4:=by rw[bp,I]
 have J:(BM s.heap a c).get? (O3 s.heap a c).objs.size=Z _:=ar _ rfl;have u:∀{d o},(O3 s.heap a c).get? d=Z o->(BM s.heap a c).get? d=Z o:=λe=>ae _ e;have j:∀{d o},(O2 s.heap a c).get? d=Z o->(BM s.heap a c).get? d=Z o:=λe=>u (ae _ e);have t:∀{d o},(GQ s.heap a c).get? d=Z o->(BM s.heap a c).get? d=Z o:=λe=>j (ae _ e);have B:∀{d o},(O1 s.heap a).get? d=Z o->(BM s.heap a c).get? d=Z o:=λe=>t (ae _ e);have M:(BM s.heap a c).get? (O2 s.heap a c).objs.size=Z _:=u (ar _ rfl);have zx:(BM s.heap a c).get? (GQ s.heap a c).objs.size=Z _:=j (ar _ rfl);have T:(BM s.heap a c).get? (O1 s.heap a).objs.size=Z _:=t (ar _ rfl);have zy:(BM s.heap a c).get? s.heap.objs.size=Z _:=B (ar _ rfl);show _/\_;rw[H,I,L]at J;rw[D,H]at zx;rw[I]at M;rw[D]at T;rw[L];exact⟨⟨_,J,rfl⟩,fin _ J zx M ⟨_,zy,rfl,rfl⟩ ⟨_,T,rfl,rfl⟩ λd o e=>B (ae _ e)⟩
def O4(K:ab)(a c:Addr):It :=
  ⟨λi H=>∃xs ys x y,qz K H a xs/\qz K H c ys/\xs[i]?=Z x/\ys[i]?=Z y,
   λi H v j=>∃T x y,v = .ref T/\H T=O/\j=pf H T (.tup [x,y])/\(∀xs,qz K H a xs->xs[i]?=Z x)/\∀ys,qz K H c ys->ys[i]?=Z y,
   λi H=>(∃xs ys,qz K H a xs/\qz K H c ys/\xs.length<=i)\/∃xs ys,qz K H a xs/\qz K H c ys/\i<xs.length/\ys.length<=i⟩
def QlH{P:bh}{w:cg}{K:ab}{av:List Expr}{kk:Nat}{pp:Pos}(a c z TI TO l B:Addr)(zy:ZA z TI TO l B [l,a] [B,c])(nn:a≠l/\c≠B) :
  rW P w K (.Tuple av kk pp) (O4 K a c) [z,TI,TO,l,B] z (λi h=>iH h z TI TO .none/\fk h TI (.ref l) (.ref B)/\(∃u v,fk h TO u v)/\h.IsTupleIter l a i/\h.IsTupleIter B c i) where
 mem:=by simp
 obj:=λi h st b J=>by
  obtain⟨zw,M,⟨u,v,go⟩,⟨o1,e1,_,d1⟩,⟨o2,e2,_,d2⟩⟩:=st;simp only[ap,d6,iw]at J;rcases J with rfl | rfl | rfl | rfl | rfl
  .exact⟨_,zw,λv q=>nomatch (show Data.fields _=Data.cell v from q)⟩
  .exact⟨_,M,λv q=>nomatch (show Data.seq _ _=Data.cell v from q)⟩
  .exact⟨_,go,λv q=>nomatch (show Data.seq _ _=Data.cell v from q)⟩
  .exact⟨_,e1,λv q=>by rw[d1]at q;cases q⟩
  .exact⟨_,e2,λv q=>by rw[d2]at q;cases q⟩
 keep:=λi h h' st k=>by
  obtain⟨zw,M,⟨u,v,go⟩,t1,zu⟩:=st;exact⟨k z (by simp) _ zw,k TI (by simp) _ M,⟨u,v,k TO (by simp) _ go⟩,t1.at λo q=>k l (by simp) o q,zu.at λo q=>k B (by simp) o q⟩
 item:=by
  intro X hP hw hK hc i L s σ H E I hf st hg;subst hP hw hK;obtain⟨xs,ys,x,y,hx,hy,ex,ey⟩:=hg;obtain⟨D,rv,p,hz⟩:=I.tuple hx;obtain⟨t,T,p2,GQ⟩:=I.tuple hy;obtain⟨u,hu,ru⟩:=rv.get ex;obtain⟨v,hv,aj⟩:=T.get ey;have hi:i<D.length:=(ax.mp hu).1;have ak:i<t.length:=(ax.mp hv).1;obtain⟨zw,M,⟨u0,v0,go⟩,t1,zu⟩:=st;have calm:X.A.in1.handled=O:=by have:=I.ok.hd hc;simp[this]
  have D1:=OI (prog:=X.prog) (w:=X.w) (A:=X.A.in1) calm l a nn.1 D.toArray;have D2:=OI (prog:=X.prog) (w:=X.w) (A:=X.A.in1) calm B c nn.2 t.toArray;refine Qhv D1 D2 zy zw M go (by simpa using hi) (by simpa using ak) ⟨t1,p⟩ ⟨zu,p2⟩ λh1 x' y' tk q1 q2 z1 o1 s1 s2 pt kp=>?_;have q1:x'=u:=by
   rw[fC,hu]at q1;exact(bi q1).symm
  have q2:y'=v:=by
   rw[fC,hv]at q2;exact(bi q2).symm
  subst q1 q2;have lt:∀{d o},s.heap.get? d=Z o->s.heap.objs.size≠d:=λe=>fo (aC e);have nT:s.heap.objs.size∉[z,TI,TO,l,B]:=λq=>by
   simp only[ap,d6,iw]at q;rcases q with q | q | q | q | q
   .exact lt zw q
   .exact lt M q
   .exact lt go q
   .obtain⟨o,e,_⟩:=t1;exact lt e q
   .obtain⟨o,e,_⟩:=zu;exact lt e q
  have aJ:fk h1 TI (.ref l) (.ref B):=kp TI _ (by simp[zy.ti.1,zy.ti.2.1,zy.ti.2.2.1,zy.ti.2.2.2]) M;refine⟨_,rfl,wpAny_letOwnedTupleGo_zip z1 λh2 z2 e2=>?_⟩;have hn:H s.heap.objs.size=O:=I.hok.fresh (au _);have nz:s.heap.objs.size≠z:=λq=>nT (by simp[q]);have az:YR h2 s.heap.objs.size #[x',y'] [x,y]:=⟨_,e2.extBut _ _ nz pt,rfl,.inl rfl,_,rfl⟩
  have k2:∀b o,b∉[z,TI,TO,l,B]->s.heap.get? b=Z o->h2.get? b=Z o:=λb o J q=>by
   simp only[ap,d6,iw,not_or]at J;exact e2.extBut _ _ J.1 (kp b o (by simp[J]) q)
  have I2:Inv X L σ (pf H s.heap.objs.size (.tup [x,y])) { s with heap:=h2,toks:=tk }:=I.turnsNew (ch:=[z,TI,TO,l,B]) (o := .tup [x,y]) hf k2 (au _) ⟨by show 2<=aV;decide,[x',y'],.cons ru (.cons aj .nil),az⟩;refine⟨.ref s.heap.objs.size,_,I2,rfl,⟨_,x,y,rfl,hn,rfl,λzs zx=>by rw[I.tuple_inj zx hx];exact ex,λzs zx=>by rw[I.tuple_inj zx hy];exact ey⟩,
   ⟨z2,e2.extBut _ _ zy.ti.1 aJ,⟨_,_,e2.extBut _ _ zy.to.1 o1⟩,s1.1.at λo q=>e2.extBut _ o zy.ii.1 q,s2.1.at λo q=>e2.extBut _ o zy.ii.2.1 q⟩,λb J=>?_⟩
  have aZ:b≠s.heap.objs.size:=λq=>nT (q▸J);rw[Qh aZ];exact(hf b J).1
 done:=by
  intro X hP hw hK hc i L s σ H E I hf st hg;subst hP hw hK;obtain⟨zw,M,⟨u0,v0,go⟩,t1,zu⟩:=st;have calm:X.A.in1.handled=O:=by have:=I.ok.hd hc;simp[this]
  have last:∀h1 tk,(∀b o,b∉[z,TO,l,B]->s.heap.get? b=Z o->h1.get? b=Z o)->Inv X L σ H { s with heap:=h1,toks:=tk }:=λh1 tk kp=>I.turns (ch:=[z,TI,TO,l,B]) hf λb o J q=>kp b o (λm=>J (by
   simp only[ap,d6,iw]at m |-;rcases m with m | m | m | m<;>simp[m])) q
  rcases hg with⟨xs,ys,hx,hy,hl⟩|⟨xs,ys,hx,hy,hl,bz⟩
  .obtain⟨D,rv,p,hz⟩:=I.tuple hx;obtain⟨t,T,p2,GQ⟩:=I.tuple hy;have aq:=rv.length;have D1:jm X.prog X.w X.A.in1 l [l,a] i (λ_ _=>True) (λj h=>j=i/\h.IsTupleIter l a i/\h.IsTuple a D.toArray) :=
    {live:=λ_ _ q=>let ⟨_,⟨o,ho,_⟩,_⟩:=q;⟨o,ho⟩
     frame:=λ_ _ _ q k=>⟨q.1,q.2.1.at λo z=>k l (by simp) o z,q.2.2.at λo z=>k a (by simp) o z⟩
     item:=λj s Q E hj q _=>absurd q.1 (aM hj)
     done:=λs Q E q fin=>YK calm q.2.1 q.2.2 (by simp;lia) fin }
   have D2:=OI (prog:=X.prog) (w:=X.w) (A:=X.A.in1) calm B c nn.2 t.toArray;exact Qdl D1 D2 zy zw M go (k1:=i) (k2:=i) (.inl rfl) ⟨rfl,t1,p⟩ ⟨zu,p2⟩ λh1 tk kp=>⟨rfl,last h1 tk kp⟩
  .obtain⟨D,rv,p,hz⟩:=I.tuple hx;obtain⟨t,T,p2,GQ⟩:=I.tuple hy;have aq:=rv.length;have bv:=T.length;have D1:=OI (prog:=X.prog) (w:=X.w) (A:=X.A.in1) calm l a nn.1 D.toArray;have D2:jm X.prog X.w X.A.in1 B [B,c] i (λ_ _=>True) (λj h=>j=i/\h.IsTupleIter B c i/\h.IsTuple c t.toArray) :=
    {live:=λ_ _ q=>let ⟨_,⟨o,ho,_⟩,_⟩:=q;⟨o,ho⟩
     frame:=λ_ _ _ q k=>⟨q.1,q.2.1.at λo z=>k B (by simp) o z,q.2.2.at λo z=>k c (by simp) o z⟩
     item:=λj s Q E hj q _=>absurd q.1 (aM hj)
     done:=λs Q E q fin=>YK calm q.2.1 q.2.2 (by simp;lia) fin }
   exact Qdl D1 D2 zy zw M go (k1:=i) (k2:=i) (.inr ⟨by simp;lia,rfl⟩) ⟨t1,p⟩ ⟨rfl,zu,p2⟩ λh1 tk kp=>⟨rfl,last h1 tk kp⟩
 self:=λA i s Q E st h=>wpAny_pyIter_zip st.1 h
section
def yx{B:List Expr}{kk:Nat}{pp:Pos}{zx:TA}(hg:Gl X "zip")(hm:X.mg "zip"=O)(ha:PA X [a,b] zx)(hs:ah [a,b] X.env=[(U,eval a X.env),(U,eval b X.env)]:=by rfl)(D:ah [b] X.env=[(U,eval b X.env)]:=by rfl) :
  PI X (.Tuple B kk pp) (.Call (.Name "zip" p) [a,b] [] zw) (λT H R=>zx T H λvs L=>∃t l,vs=[.ref t,.ref l]/\(∃xs,qz X.K L t xs)/\(∃ys,qz X.K L l ys)/\R (O4 X.K t l) L):=by
 intro j s T H R I h;refine Call_ (B0 I hg hm (show cW "zip"=Z (.type "zip") from by kernel_rfl) (cH (pA (ha zw j s T H _ I h) λus s1 zz=>?_) (by rw[hs,D]) (by rw[D];rfl)));obtain⟨vs,L,u,r1,q1⟩:=zz;obtain⟨t,l,rfl,⟨xs,hx⟩,⟨ys,hy⟩,q⟩:=q1;cases r1 with
 | cons r zu=>cases zu with
  |cons r' zu =>
   cases zu;cases r;cases r';obtain⟨az,rv,pt,_⟩:=u.tuple hx;obtain⟨av,aq,p2,_⟩:=u.tuple hy;have E:t<s1.heap.objs.size:=by obtain⟨o,e,_⟩:=pt;exact aC e
   have J:l<s1.heap.objs.size:=by obtain⟨o,e,_⟩:=p2;exact aC e
   refine QjO pt p2 λh' gz gi go t1 t2 k=>?_;refine wpAny_pyIter_zip gz ?_;have zy:=JQ E J;refine⟨s1.heap.objs.size+4,[s1.heap.objs.size+4,s1.heap.objs.size+2,s1.heap.objs.size+3,s1.heap.objs.size,s1.heap.objs.size+1],_,_,L,rfl,u.kept (t':=s1.toks) k,QlH t l _ _ _ _ _ zy ⟨aM E,aM (bQ J)⟩,⟨gz,gi,⟨_,_,go⟩,t1,t2⟩,λd hd=>?_,q⟩;have M:s1.heap.objs.size<=d:=by
    simp only[ap,d6,iw]at hd;rcases hd with rfl | rfl | rfl | rfl | rfl
    .exact iD _ 4
    .exact iD _ 2
    .exact iD _ 3
    .exact au _
    .exact iD _ 1
   exact u.fpOk M (u.hok.fresh M)
set_option tactic.hygienic true in
def yy{D:List Expr}{kk:Nat}{pp:Pos}(hc:X.calm=Y)(hg:Gl X "zip")(hm:X.mg "zip"=O)(ha:AM X ms [a,b] ma)(hs:ah [a,b] X.env=[(U,eval a X.env),(U,eval b X.env)]:=by rfl)(M:ah [b] X.env=[(U,eval b X.env)]:=by rfl) :
  IM X ms (.Tuple D kk pp) (.Call (.Name "zip" p) [a,b] [] az) (Qb Tc ma) :=
 PI.imp (yx hg hm ha hs M) λσ H R ⟨F,γ,zs,k1,k2,B,w⟩=>by
  obtain⟨qs,e1,B⟩:=Qc B;refine⟨F,γ,qs,k1,k2,e1,λvs H1 F1 zx E=>?_⟩;unfold Tc at B;split at B
  .rename_i xs ys;cases B;unfold oP at E;obtain⟨v,t,rfl,E,I⟩:=E;unfold oP at I;obtain⟨v',t',rfl,q2,I⟩:=I;unfold oP at I;subst I;unfold o3 at E q2;obtain⟨l,us,rfl,sl,rl⟩:=E;obtain⟨l',u,rfl,j,J⟩:=q2;have hl:=rl.length;have aq:=J.length;refine⟨l,l',rfl,⟨us,zx.sub.seqT sl⟩,⟨u,zx.sub.seqT j⟩,w _ _ _ zx ?_⟩;refine⟨λi H2 hi e2=>?_,λi H2 v H3 hi e2 y=>?_,λH2 e2=>?_⟩
   .rw[mF]at hi;have h1:i<us.length:=by omega
    have h2:i<u.length:=by omega
    exact⟨us,u,us[i],u[i],e2.seqT sl,e2.seqT j,by simp[h1],by simp[h2]⟩
   .obtain⟨T,x,L,rfl,zw,rfl,y1,y2⟩:=y;obtain⟨p,e3,e4⟩:=rl.back (y1 us (e2.seqT sl));obtain⟨p',zy,av⟩:=J.back (y2 u (e2.seqT j));refine⟨.tup [p,p'],?_,λF2 x1 x2=>?_⟩
    .rw[List.getElem?_zipWith,e3,zy]
    .refine⟨pf F2 T (.tup [x,L]),.laid x2 zw,?_⟩;unfold o3;exact⟨T,[x,L],rfl,.of Qf,.cons (e4.mono (x1.trans (pd.laid (o := .tup [x,L]) x2 zw).ext)) (.cons (av.mono (x1.trans (pd.laid (o := .tup [x,L]) x2 zw).ext)) .nil)⟩
   .rw[mF];by_cases hc:us.length<=min xs.length ys.length
    .exact .inl ⟨us,u,e2.seqT sl,e2.seqT j,hc⟩
    .exact .inr ⟨us,u,e2.seqT sl,e2.seqT j,by omega,by omega⟩
  .cases B
end
noncomputable def O5(m i:Nat):Nat:=(i*5+1)%m
def sR(m:Nat):Nat->Nat->Nat
 |0,i=>i
 |s+1,i=>sR m s (O5 m i)
def VM m:∀a b i,sR m (a+b) i=sR m b (sR m a i):=by
 intro a;induction a with
 |zero =>
  intro b i;rw[iK];rfl
 |succ a j =>
  intro b i;rw[show a+1+b=(a+b)+1 by lia];exact j b (O5 m i)
def yz(m:Nat):Prop:=m=8\/m=16\/m=32\/m=64\/m=128\/m=256
def M5(m:Nat):Nat->Nat->List Nat
 |0,_=>[]
 |s+1,i=>i::M5 m s (O5 m i)
theorem Qfu m:∀n i s,s<n->(M5 m n i)[s]?=Z (sR m s i)
 |n+1,i,0,_=>rfl
 |n+1,i,s+1,h=>by
  exact Qfu m n (O5 m i) s (by lia)
def Qft m:∀n i,(M5 m n i).length=n:=by
 intro n;induction n with
 |zero =>
  intro _;exact rfl
 |succ n j =>
  intro i;show(M5 m n (O5 m i)).length+1=n+1;rw[j]
def XU(m:Nat):Bool:=Nat.beq (sR m m 0) 0&&(ai m).all λf=>(M5 m m 0).any λx=>Nat.beq x f
def QlX:XU 8=Y/\XU 16=Y/\XU 32=Y/\XU 64=Y/\XU 128=Y/\XU 256=Y:=by decide+kernel
def yA(h:yz m):XU m=Y:=by
 obtain⟨a,b,c,d,e,f⟩:=QlX;rcases h with rfl | rfl | rfl | rfl | rfl | rfl<;>assumption
def J8(h:yz m):sR m m 0=0/\∀f,f<m->∃s,s<m/\sR m s 0=f:=by
 have q:=yA h;unfold XU at q;rw[aQ,aX]at q;refine⟨lK q.1,λf hf=>?_⟩;have:f∈M5 m m 0:=by
  obtain⟨x,j,e⟩:=dg.mp (q.2 f (aR.mpr hf));rw[<-lK e];exact j
 obtain⟨s,hs,e⟩:=dH.mp this;rw[Qft]at hs;have z:=Qfu m m 0 s hs;rw[aG (by rw[Qft];exact hs),e]at z;exact⟨s,hs,(bi z).symm⟩
def O6(h:yz m)(l:i<m)(hf:f<m):∃s,s<m/\sR m s i=f:=by
 obtain⟨j,hr⟩:=J8 h;obtain⟨a,u,rfl⟩:=hr i l;obtain⟨b,B,rfl⟩:=hr f hf;by_cases t:a<=b
 .exact⟨b-a,by lia,by rw[<-VM];congr 1;lia⟩
 .refine⟨m-a+b,by lia,?_⟩;rw[VM,<-VM m a,show a+(m-a)=m by lia,j]
def uM(mask:Nat):Nat->Nat×Nat->Nat×Nat
 |0,x=>x
 |s+1,x=>uM mask s (dS.leap mask x.1 x.2)
def Qmx mask:∀a b x,uM mask (a+b) x=uM mask b (uM mask a x):=by
 intro a;induction a with
 |zero =>
  intro b x;rw[iK];rfl
 |succ a j =>
  intro b x;rw[show a+1+b=(a+b)+1 by lia];exact j b _
def Qjz mask:∀s i,uM mask s (i,0)=(sR (mask+1) s i,0):=by
 intro s;induction s with
 |zero =>
  intro _;exact rfl
 |succ s j =>
  intro i;show uM mask s ((i*5+1+0/32)%(mask+1),0/32)=_;exact j _
def QjA mask:∀s i p,(uM mask s (i,p)).2=p/32^s:=by
 intro s;induction s with
 |zero =>
  intro i p;simp[uM]
 |succ s j =>
  intro i p;show(uM mask s ((i*5+1+p/32)%(mask+1),p/32)).2=_;rw[j,Nat.div_div_eq_div_mul,Nat.pow_succ,Nat.mul_comm]
def yB mask:∀s i p,i<mask+1->(uM mask s (i,p)).1<mask+1:=by
 intro s;induction s with
 |zero =>
  intro i p h;exact h
 |succ s j =>
  intro i p h;exact j _ _ (bU _ (by lia))
def O7(h:yz (mask+1))(l:i<mask+1)(B:p<2^64)(hf:f<mask+1):∃s,s<iz mask/\(uM mask s (i,p)).1=f:=by
 have z:(uM mask 13 (i,p)).2=0:=by
  rw[QjA];exact Nat.div_eq_of_lt (aF B (by decide))
 obtain⟨s,hs,e⟩:=O6 h (yB mask 13 i p l) hf;refine⟨13+s,by delta iz;lia,?_⟩;rw[Qmx,show uM mask 13 (i,p)=((uM mask 13 (i,p)).1,0) from Prod.ext rfl z,Qjz];exact e
set_option tactic.hygienic true in
def Dy:∀l i p j,dS.layClean.free mask owner l i p=Z j->owner.getD j (Z 0)=O:=by
 intro l;induction l with
 |zero =>
  intro i p j h;cases h
 |succ l t =>
  intro i p j h;unfold dS.layClean.free at h;split at h
  .rename_i k u;cases h;have:=List.find?_some u;simpa[Option.isNone_iff_eq_none] using this
  .exact t _ _ j h
def QmL(hf:owner.getD f (Z 0)=O):∀l i p,(∃s,s<l/\(uM mask s (i,p)).1=f)->∃j,dS.layClean.free mask owner l i p=Z j:=by
 intro l;induction l with
 |zero =>
  rintro i p ⟨s,hs,_⟩;lia
 |succ l t =>
  rintro i p ⟨s,hs,e⟩;unfold dS.layClean.free;split
  .exact⟨_,rfl⟩
  .rename_i u;cases s with
   |zero =>
    have e:i=f:=e;subst e;have z:=List.find?_eq_none.mp u 0 (by rw[aR];delta dS.runEnd;split<;>lia);rw[Nat.add_zero,hf]at z;simp at z
   |succ s=>exact t _ _ ⟨s,by lia,e⟩
theorem yC:∀(l:List (Option Nat)) j k,l[j]?=Z O->((l.set j (Z k)).filterMap id).Perm (k::l.filterMap id)
 |[],j,k,h=>by simp at h
 |x::l,0,k,h=>by
  have :=by simpa using h
  subst this;simp
 |x::l,j+1,k,h=>by
  have t:=yC l j k (by simpa using h);cases x with
  |none=>simpa using t
  |some y =>
   exact(t.cons y).trans (.swap _ _ _)
def Dz:∀(l:List (Option Nat)),(∀x∈l,x≠O)->(l.filterMap id).length=l.length:=by
 intro l;induction l with
 |nil =>
  intro _;exact rfl
 |cons x l j =>
  intro h;cases x with
  |none=>exact absurd rfl (h O (by simp))
  |some y=>simp[j λx t=>h x (by simp[t])]
noncomputable def yD(mask:Nat)(l:Option (Array (Option Nat)×Nat))(h:Int):Option (Array (Option Nat)×Nat):=do
 let (owner,k) <-l;let j <-dS.layClean.free mask owner (iz mask) (gX h%(mask+1)) (gX h)
 pure (owner.setIfInBounds j (Z k),k+1)
def yE(hm:yz (mask+1))(h1:owner.size=mask+1)(h2:(owner.toList.filterMap id).Perm (ai k))(zy:k<=mask) h :
  ∃l,yD mask (Z (owner,k)) h=Z (l,k+1)/\l.size=mask+1/\(l.toList.filterMap id).Perm (ai (k+1)):=by
 obtain⟨f,hf,B⟩:∃f,f<mask+1/\owner.getD f (Z 0)=O:=by
  apply b5;intro D;have all:∀x∈owner.toList,x≠O:=λx J z=>by
   obtain⟨i,H,e⟩:=dH.mp J;rw[bE]at H;refine D ⟨i,by lia,?_⟩;rw[gT,aW H];rw[Array.getElem_toList]at e;rw[e,z];rfl
  have l1:=Dz _ all;have l2:=h2.length_eq;rw[ao]at l2;have T:owner.toList.length=owner.size:=bE;lia
 have L:gX h<2^64:=by
  delta gX;lia
 obtain⟨j,I⟩:=QmL B (iz mask) _ _ (O7 hm (bU _ (by lia)) L hf);have t:=Dy _ _ _ _ I;have u:j<owner.size:=by
  apply b5;intro M;rw[gT,cA (by lia)]at t;cases t
 have E:owner.toList[j]?=Z O:=by
  rw[gT,aW u]at t;rw[cX,aW u];exact congrArg Z t
 refine⟨owner.setIfInBounds j (Z k),?_,by rw[Array.size_setIfInBounds];exact h1,?_⟩
 .show(dS.layClean.free mask owner (iz mask) (gX h%(mask+1)) (gX h)).bind _=_;rw[I];rfl
 .rw[Array.toList_setIfInBounds];refine(yC _ _ _ E).trans ?_;rw[gL];exact(h2.cons k).trans (List.perm_append_comm (l₁:=[k]))
def yF(hm:yz (mask+1)):∀(hs:List Int) owner k,owner.size=mask+1->(owner.toList.filterMap id).Perm (ai k)->k+hs.length<=mask+1 ->
  ∃l,hs.foldl (yD mask) (Z (owner,k))=Z (l,k+hs.length)/\l.size=mask+1/\(l.toList.filterMap id).Perm (ai (k+hs.length)):=by
 intro hs;induction hs with
 |nil =>
  intro owner k h1 h2 h3;exact⟨owner,rfl,h1,h2⟩
 |cons h hs j =>
  intro owner k h1 h2 h3;rw[aU]at h3;obtain⟨t,e,u,B⟩:=yE hm h1 h2 (by lia) h;obtain⟨o2,e2,D,E⟩:=j t (k+1) u B (by lia);refine⟨o2,?_,D,?_⟩
  .rw[gN,e,e2,aU];congr 2;lia
  .rw[aU,show k+(hs.length+1)=k+1+hs.length by lia];exact E
def QhI(hm:yz (mask+1)) hs (B:hs.size<=mask+1):∃owner,dS.layClean mask hs=Z owner/\owner.size=mask+1/\(owner.toList.filterMap id).Perm (ai hs.size):=by
 obtain⟨o,e,j,l⟩:=yF hm hs.toList (ou (mask+1) O) 0 (by simp) (by simp) (by rw[bE];omega);refine⟨o,?_,j,by simpa using l⟩;show(hs.foldl (yD mask) (Z (ou (mask+1) O,0))).map (·.1)=_;rw[<-Array.foldl_toList,e];rfl
def Qiu(owner:Array (Option Nat)) n (h:owner.size=n):(((ai n).filterMap λj=>(owner.getD j O).map (j,·)).map (·.2))=owner.toList.filterMap id:=by
 subst h;rw[List.map_filterMap];have:owner.toList=(ai owner.size).map λj=>owner.getD j O:=by
  apply fM
  .simp
  .intro i h1 h2;simp[ aW (show i<owner.size by simpa using h1)]
 rw[this,na];congr 1;funext j;simp[ Option.map_map];cases owner[j]?.getD O<;>rfl
def Qld{led plain:Bool}(hm:yz (mask+1)) hs (D:hs.size<=mask) :
  ∃t order,jT mask finger moves led plain hs=Z (t,order)/\order.toList.Perm (ai hs.size)/\t.led=led/\Up t.place/\t.fits hs.size=Y/\t.mask=mask/\t.dummies = #[]:=by
 obtain⟨o,e,u,B⟩:=QhI hm hs (by lia);have l:((ai (mask+1)).filterMap λj=>(o.getD j O).map (j,·)).length=hs.size:=by
  have:=congrArg dt (Qiu o (mask+1) u);rw[ag]at this;rw[this,B.length_eq,ao]
 have e2:jT mask finger moves led plain hs=Z ({ mask:=mask,place:=(((ai (mask+1)).filterMap λj=>(o.getD j O).map (j,·)).map (·.1)).toArray,dummies := #[],finger:=finger,led:=led,moves:=moves,plain:=plain },(((ai (mask+1)).filterMap λj=>(o.getD j O).map (j,·)).map (·.2)).toArray):=by
  delta jT;rw[e];rfl
 refine⟨_,_,e2,?_,rfl,?_,?_,rfl,rfl⟩
 .rw[List.toList_toArray,Qiu o (mask+1) u];exact B
 .exact Qci (λj=>o.getD j O) _
 .delta mS mT;rw[aP,ag,l];simp[D]
section
def rC:Value->Str
 |.str k _=>k
 |_=>""
def O8(h:(strKind prog w).is k v=Y):rC v=k:=by
 cases v with
 |str y t=>exact(strKind prog w).inj (.str y t) y k (lQ _ _ _ _) h
 |_=>exact absurd h (by simp[ic,gW])
def Xs(h:kA (strKind prog w) l)(he:e∈l):(strKind prog w).is (rC e.2) e.2=Y/\e.1=(strKind prog w).hash (rC e.2)/\e.2.scannable=Y:=by
 obtain⟨⟨k,h1,h2⟩,h3⟩:=h e he;rw[O8 h1];exact⟨h1,h2,h3⟩
structure pe (prog:bh) (w:cg) (L:Bool) (h:Heap) (a:Addr) (o:Obj) (es:Array (Int×Value)) (ep:Nat) (t:dS) (M:List Str):Prop where
 ho:h.get? a=Z o
 ex:o.ExactSet
 hd:o.data = .set es ep t
 el:kA (strKind prog w) es.toList
 ks:(es.toList.map λe=>rC e.2).Perm M
 nd:M.Nodup
 sb:es.size<eD
 hf:t.fits es.size=Y
 kp:qw L t
def Yx.toK(x:Yx prog w L h a M):∃o l B t,pe prog w L h a o l B t M:=by
 obtain⟨o,l,B,t,h1,h2,h3,u,D,E,H,J,h9,j⟩:=x;refine⟨o,l,B,t,h1,h2,h3,u,?_,h9,E,H,j⟩;refine Vz h9 (λk I=>?_) (by rw[ag,bE];lia);obtain⟨e,he,q⟩:=(D k).mp I;exact aO.mpr ⟨e,he,O8 q⟩
def pe.toL(x:pe prog w L h a o l B t M):Yx prog w L h a M:=by
 refine⟨o,l,B,t,x.ho,x.ex,x.hd,x.el,λk=>⟨λj=>?_,λ⟨e,he,q⟩=>?_⟩,x.sb,x.hf,?_,x.nd,x.kp⟩
 .obtain⟨e,he,rfl⟩:=aO.mp (x.ks.mem_iff.mpr j);exact⟨e,he,(Xs x.el he).1⟩
 .exact x.ks.mem_iff.mp (aO.mpr ⟨e,he,O8 q⟩)
 .have:=x.ks.length_eq;rw[ag,bE]at this;exact this
def yG(x:pe prog w L s.heap a o B I t M)(fin:∀r,(∀i,r=Z i->∃e,B.toList[i]?=Z e/\rC e.2=k)->(r=O->k∉M)->Q r s):aE (model prog w) A (setFind a (.str k tk) ((strKind prog w).hash k)) Q E s:=by
 have u:(strKind prog w).is k (.str k tk)=Y:=lQ _ _ _ _;refine aa (br x.ho x.hd x.hf ?_);dsimp only;rw[byScan_of (rfl) x.sb x.el,aw rfl];refine aa (fg (aa (kH u x.ho x.hd x.hf x.el ?_)));cases hr:kU (λe=>(strKind prog w).is k e.2) B.toList with
 |some j =>
  obtain⟨D,H,_⟩:=ge.mp hr;refine af (fin _ (λi l=>?_) λz=>by cases z);cases l;rw[iK];exact⟨_,aG D,O8 H⟩
 |none =>
  refine af (fin _ (λi l=>by cases l) λ_ z=>?_);obtain⟨e,he,rfl⟩:=aO.mp (x.ks.mem_iff.mpr z);have:=hX.mp hr e he;rw[(Xs x.el he).1]at this;cases this
def Td(xs:Array α) i:(gR xs i).toList=xs.toList.eraseIdx i:=by
 unfold gR;rw[gO,mr,mr,List.eraseIdx_eq_take_drop_succ];simp[kG];rw[di (by simp)]
theorem VN{t:dS}:t.fits n=Y↔t.place.size=n/\t.place.size+t.dummies.size<=t.mask:=by
 show(t.place.size==n&&decide (t.place.size+t.dummies.size<=t.mask))=Y↔_;rw[aQ,a9,bM]
theorem QdV(f:α->B):∀(l:List α) i,(l.eraseIdx i).map f=(l.map f).eraseIdx i
 |[],_=>rfl
 |x::l,0=>rfl
 |x::l,i+1=>by
  show f x::(l.eraseIdx i).map f=f x::(l.map f).eraseIdx i;rw[QdV f l i]
def QhK xs p (x:α):(iP xs p x).size=xs.size+1:=by
 grind[QbE,a0]
theorem Qeb(xs:Array α)(h:i<xs.size):(gR xs i).size=xs.size-1:=by
 rw[<-bE,Td,i5,aw (by exact h),bE]
theorem QjL{t:dS}(h:i<t.place.size):(t.drop i).place=gR t.place i/\(t.drop i).dummies.size=t.dummies.size+1/\(t.drop i).mask=t.mask:=by
 delta dS.drop;rw[aW h];exact⟨rfl,QhK _ _ _,rfl⟩
def QmY{t:dS}(h:t.fits n=Y)(l:i<n):(t.drop i).fits (n-1)=Y:=by
 grind[VN,QjL,Qeb]
def QmX(k:qw L t) i:qw L (t.drop i):=by
 delta dS.drop;split
 .refine⟨k.1,?_⟩;delta Up;rw[Td];exact k.2.sublist (List.eraseIdx_sublist _ _)
 .exact k
def QmZ(x:pe prog w L s.heap a o l D t M)(fin:∀b I,bN a s.heap I->(∃o l D t,pe prog w L I a o l D t (M.erase k))->Q b { s with heap:=I }):aE (model prog w) A (setDiscardHashed a (.str k tk) ((strKind prog w).hash k)) Q E s:=by
 refine aa (yG x λr h1 h2=>?_);cases r with
 |none =>
  refine af ?_;have z:=fin U s.heap (d5 a s.heap) ⟨o,l,D,t,by rw[List.erase_of_not_mem (h2 rfl)];exact x⟩;exact z
 |some i =>
  obtain⟨e,he,H⟩:=h1 i rfl;have zw :=by
   have:=(ax.mp he).1
   rwa [bE]at this
  refine aa (br x.ho x.hd x.hf ?_);have sz:=Qeb l zw;have J:=SY x.ho x.hd (gR l i) (t.drop i);refine aa (fO x.ho x.hd ?_ (d0 (by have:=x.sb;lia)));refine aa (wpAny_point (af (fin Y _ (cK s.heap a _) ⟨_,_,_,_,J,x.ex,rfl,?_,?_,x.nd.erase k,by have:=x.sb;lia,?_,QmX x.kp i⟩)))
  .intro zy j;rw[Td]at j;exact x.el zy (List.mem_of_mem_eraseIdx j)
  .rw[Td,QdV];have zx:(l.toList.map λe=>rC e.2)[i]?=Z k:=by rw[aI,he];exact congrArg Z H
   obtain⟨u,B⟩:=ax.mp zx;have p1:=SK u;rw[B]at p1;have T:k∈M:=x.ks.mem_iff.mp (by rw[<-B];exact bu u);exact(List.perm_cons k).mp ((p1.trans x.ks).trans (i4 T))
  .rw[sz];exact QmY x.hf zw
end
section
def yH(x:pe prog w (!byT w) s.heap a o l B t M)(fin:∀ys d,ys.toList.Perm l.toList->Q ys { s with drawn:=d }):aE (model prog w) A (setWalk a) Q E s:=by
 refine aa (br x.ho x.hd x.hf ?_);refine aa (aa (cV (af ?_)));refine(show aE _ A (if byT w=Y then _ else _) _ E s from ?_);cases T:byT w with
 |true =>
  exact aa (cV (af (fin _ s.drawn (SN _ _))))
 |false =>
  refine(show aE _ A (if JA l t=Y then _ else _) _ E s from ?_);cases D:JA l t with
  |true =>
   exact aa (Vx _ _ _ _ (by rw[bE]) λys d p=>af (fin _ d (by exact p)))
  |false =>
   have j :=by have:=x.kp.1;rw[T]at this;exact this
   refine aa (show aE _ A (if (!t.led&&decide (l.size>1))=Y then unsupported _ else pure ()) _ E s from ?_);rw[j,aN (by simp)];exact af (af (fin l s.drawn (.refl _)))
def QkQ(h:∀a∈l,∃L o B I t M,pe prog w L s.heap a o B I t M)(fin:Q Y s):aE (model prog w) A (setsQuiet l) Q E s:=by
 refine aa (wpAny_forIn_list _ (λpb b s'=>b=⟨O,⟨⟩⟩/\s'=s/\∀a∈pb,a∈l) _ ?_ ?_ _ _ ⟨rfl,rfl,λa u=>u⟩)
 .rintro a pb b s' ⟨rfl,D,hs⟩;obtain rfl:=D.symm;obtain⟨L,o,B,I,t,M,x⟩:=h a (hs a (by simp));refine aa (aa (br x.ho x.hd x.hf (af ?_)));refine aa (jY _ (λr b j=>b=⟨O,⟨⟩⟩/\s=j/\∀e∈r,e∈B.toList) _ ?_ ?_ _ _ ⟨rfl,rfl,λe he=>he⟩)
  .rintro⟨n,v⟩ r b j ⟨rfl,rfl,hr⟩;have H:=(Xs x.el (hr (n,v) (by simp))).1;cases v with
   |str y t=>exact af ⟨rfl,rfl,λe he=>hr e (by simp[he])⟩
   |_=>exact absurd H (by simp[ic,gW])
  .rintro b j ⟨rfl,rfl,_⟩;exact af ⟨rfl,rfl,λa u=>hs a (by simp[u])⟩
 .rintro b s' ⟨rfl,rfl,_⟩;exact af fin
end
def yI:∀l:List α,(ai l.length).filterMap (λi=>l[i]?)=l:=by
 intro l;induction l with
 |nil =>
  exact rfl
 |cons x l j =>
  rw[aU,lB,cY (a:=0) (b:=x) rfl,na];exact congrArg (x :: ·) (j)
def Qll{α:Type}{l:Array α}{order:Array Nat}(h:order.toList.Perm (ai l.size)):(order.filterMap (l[·]?)).toList.Perm l.toList:=by
 rw[Array.toList_filterMap];have z:=h.filterMap (λi=>l[i]?);have e :=by
  have:=yI l.toList;simpa using this
 rwa [e]at z
def QfD{xs ys:Array α}(h:xs.toList.Perm ys.toList):xs.size=ys.size:=by
 have:=h.length_eq
 rwa [bE,bE]at this
def Qdt(h:n<256):yz (bT n)/\n<bT n:=by
 have key:∀n<256,(bT n=8\/bT n=16\/bT n=32\/bT n=64\/bT n=128\/bT n=256)/\n<bT n:=by decide+kernel
 exact key n h
section
def Te(x:pe prog w L s.heap a o zy T t M)(el:kA (strKind prog w) l.toList)(ks:(l.toList.map λe=>rC e.2).Perm N)(nd:N.Nodup)(sb:l.size<eD)(hf:t'.fits l.size=Y)(kp:qw L t')(fin:∀B I D,bN a s.heap B->pe prog w L B a I l D t' N->Q () { s with heap:=B }):aE (model prog w) A (lR a l t') Q E s :=
 fO x.ho x.hd (fin _ _ _ (cK s.heap a _) ⟨SY x.ho x.hd l t',x.ex,rfl,el,ks,nd,sb,hf,kp⟩) (d0 sb)
def QkN{L:Bool}{a:Addr}{o:Obj}{l:Array (Int×Value)}{T:Nat}{t:dS}{M:List Str}{wanted:Nat}{Q:Unit->aH->Prop}(x:pe prog w L s.heap a o l T t M)(hw:wanted<256)(hn:l.size<=wanted)(fin:∀D I zx B t',bN a s.heap D->pe prog w L D a I zx B t' M->t'.mask+1=bT wanted->t'.dummies = #[]->Q () { s with heap:=D }):aE (model prog w) A (setRelay a wanted) Q E s:=by
 obtain⟨u,m2⟩:=Qdt hw;refine aa (br x.ho x.hd x.hf ?_);dsimp only;have line:¬bT wanted>aV:=by
  rw[hh];delta yz at u;lia
 rw[aN line];have j:bT wanted-1+1=bT wanted:=by lia
 obtain⟨t',order,e1,e2,e3,J,H,e6,zw⟩:=Qld (by rw[j];exact u) (l.map (·.1)) (by rw[fK];lia);rw[fK]at e2 H;have zy:t.relaid (l.map (·.1)) wanted=Z (t',order):=e1;rw[zy];have p:=Qll e2;have ps:=QfD p;refine aa (show aE _ A (if ((order.filterMap (l[·]?)).size != l.size)=Y then (unsupported _ >>= λ_=>pure (order.filterMap (l[·]?),t')) else pure (order.filterMap (l[·]?),t')) _ E s from ?_);rw[aN (by rw[ps];simp)];refine af (Te x (x.el.perm p) ((p.map _).trans x.ks) x.nd (by rw[ps];exact x.sb) (by rw[ps];exact H) ⟨e3.trans x.kp.1,J⟩ λD I B sb y=>fin D I _ B t' sb y (by lia) zw)
def J9(x:pe prog w L s.heap a o B D t M)(I:M.length<64)(fin:∀l,bN a s.heap l->(∃o B D t,pe prog w L l a o B D t M)->Q () { s with heap:=l }):aE (model prog w) A (setTidy a) Q E s:=by
 have j:=x.ks.length_eq;rw[ag,bE]at j;refine aa (br x.ho x.hd x.hf ?_);dsimp only;split
 .have g:b8 B.size=B.size*4:=by
   delta b8;rw[aN (by lia)]
  exact QkN x (by lia) (by lia) λl J u H t' sb y _ _=>fin l sb ⟨_,_,_,_,y⟩
 .exact af (fin s.heap (d5 a s.heap) ⟨_,_,_,_,x⟩)
end
section
def pe.at(x:pe prog w L h a o l B t M)(e:D.get? a=h.get? a):pe prog w L D a o l B t M :=
 ⟨e.trans x.ho,x.ex,x.hd,x.el,x.ks,x.nd,x.sb,x.hf,x.kp⟩
def pe.len(x:pe prog w L h a o l B t M):l.size=M.length:=by
 have j:=x.ks.length_eq
 rwa [ag,bE]at j
def Ka(x:pe prog w L s.heap a o #[] I t [])(hm:t.mask=7)(hd:t.dummies = #[])(T:n<128)(fin:∀B D l t',bN a s.heap B->pe prog w L B a D #[] l t' []->yz (t'.mask+1)->n<=t'.mask->t'.dummies = #[]->Q () { s with heap:=B }):aE (model prog w) A (setRoomFor a n) Q E s:=by
 have j:t.place.size=0:=(VN.mp x.hf).1;refine aa (br x.ho x.hd x.hf ?_);delta dS.roomFor mT;rw[j,hd,hm];by_cases h:(0+(#[]:Array Nat).size+n)*5>=7*3
 .rw[aw h];refine QkN x (by lia) (by show 0<=_;lia) λB D u l t' sb y H J=>?_;have M :=Array.eq_empty_of_size_eq_zero y.len;subst M;obtain⟨zy,zx⟩:=Qdt (n:=(0+n)*2) (by lia);exact fin B D l t' sb y (by rw[H];exact zy) (by lia) J
 .rw[aN h];exact af (fin s.heap o I t (d5 a s.heap) x (by rw[hm];exact .inl rfl) (by lia) hd)
def DA{L:Bool}{a r:Addr}{o ro:Obj}{l:Array (Int×Value)}{I zx:Nat}{t rt:dS}{M:List Str}{Q:Unit->aH->Prop}(x:pe prog w L s.heap a o l I t M)(y:pe prog w L s.heap r ro #[] zx rt [])(ne:r≠a)(hm:rt.mask=7)(hd:rt.dummies = #[])(hn:M.length<128)(fin:∀B,bN r s.heap B->(∃o l I t,pe prog w L B r o l I t M)->Q () { s with heap:=B }):aE (model prog w) A (setMerge r a) Q E s:=by
 have hl:=x.len;delta setMerge;rw[aN (by simpa using ne)];refine aa (br x.ho x.hd x.hf ?_);dsimp only;by_cases H:l.isEmpty=Y
 .rw[aw H];have:l.size=0:=by simpa using H
  have:M=[]:=List.eq_nil_of_length_eq_zero (by lia);subst this;exact af (fin s.heap (d5 r s.heap) ⟨_,_,_,_,y⟩)
 .rw[aN H];refine aa (Ka y hm hd (by lia) λh1 o1 zy t1 D j k1 k2 k3=>?_);refine aa (br j.ho j.hd j.hf ?_);have J :=(VN.mp j.hf).1;have u:t1.road t=if (t1.mask==t.mask&&t.dummies.isEmpty)=Y then .slotForSlot else .clean:=by
   delta dS.road mT;rw[J,k3];rfl
  rw[u];have led:(t1.led&&t.led)=L:=by rw[j.kp.1,x.kp.1,Bool.and_self]
  by_cases h2:(t1.mask==t.mask&&t.dummies.isEmpty)=Y
  .rw[aw h2];exact Te j x.el x.ks x.nd x.sb x.hf ⟨led,x.kp.2⟩ λB o' T sb z=>fin B (D.trans sb) ⟨_,_,_,_,z⟩
  .rw[aN h2];obtain⟨t',order,e1,e2,e3,e4,zw,e6,e7⟩:=Qld k1 (l.map (·.1)) (by rw[fK];lia);rw[fK]at e2 zw;rw[e1];have p:=Qll e2;have ps:=QfD p;refine aa (show aE _ A (if ((order.filterMap (l[·]?)).size != l.size)=Y then (unsupported _ >>= λ_=>pure (order.filterMap (l[·]?),t')) else pure (order.filterMap (l[·]?),t')) _ E _ from ?_);rw[aN (by rw[ps];simp)];exact af (Te j (x.el.perm p) ((p.map _).trans x.ks) x.nd (by rw[ps];exact x.sb) (by rw[ps];exact zw) ⟨e3.trans led,e4⟩ λB o' T sb z=>fin B (D.trans sb) ⟨_,_,_,_,z⟩)
def Qhk(x:pe prog w (!byT w) s.heap a o l B t M)(h:∀b∈BB,∃L o l B t M,pe prog w L s.heap b o l B t M)(fin:∀ys d,ys.toList.Perm l.toList->Q ys { s with drawn:=d }):aE (model prog w) A (mQ a BB O) Q E s:=by
 refine aa (br x.ho x.hd x.hf ?_);refine aa (aa (cV (af ?_)));split
 .exact yH x fin
 .refine aa (QkQ (λb j=>?_) ?_)
  .rcases ap.mp j with rfl | j
   .exact⟨_,_,_,_,_,_,x⟩
   .exact h b j
  .exact aa (fg (af (fin l s.drawn (.refl _))))
def Qhj(x:pe prog w (!byT w) s.heap a o l D t M)(y:pe prog w (!byT w) s.heap f zx I zy T N)(h:∀b∈BB,∃L o l D t M,pe prog w L s.heap b o l D t M)(fin:∀ys B d,ys.toList.Perm l.toList->bN f s.heap B->(∃o l D t,pe prog w (!byT w) B f o l D t N)->Q ys { s with heap:=B,drawn:=d }):aE (model prog w) A (mQ a BB (Z f)) Q E s:=by
 have j:∀(ys:Array (Int×Value)) d,ys.toList.Perm l.toList->Q ys { s with drawn:=d }:=λys d p=>fin ys s.heap d p (d5 f s.heap) ⟨_,_,_,_,y⟩;unfold mQ setsByText;refine aa (br x.ho x.hd x.hf ?_);dsimp only;refine aa (aa (cV (af ?_)));split
 .exact yH x j
 .refine aa (QkQ (λb u=>?_) ?_)
  .rcases ap.mp u with rfl | u
   .exact⟨_,_,_,_,_,_,x⟩
   .exact h b u
  .rw[aN (by decide)];refine aa (fg ?_);refine aa (br y.ho y.hd y.hf ?_);dsimp only;split
   .refine aa (Te y y.el y.ks y.nd y.sb y.hf ⟨?_,y.kp.2⟩ λB J H sb z=>af (fin l B s.drawn (.refl _) sb ⟨_,_,_,_,z⟩));show(T.led&&t.led)=_;rw[y.kp.1,x.kp.1,Bool.and_self]
   .exact af (j l s.drawn (.refl _))
end
section
def pe.ty{s:aH}(x:pe prog w L s.heap a o l B t M):s.TypeIs (.ref a) "set":=⟨o,x.ho,x.ex.1⟩
def Tf(T:s.TypeIs (.ref a) "set")(h:Q Y s):aE (model prog w) A (io.Frozenset.isAnySet (.ref a)) Q E s:=by
 refine aa (fX T kh ?_);exact af h
def GR(fin:∀l o,l=s.heap.push o->pe prog w (!byT w) l s.heap.objs.size o #[] 0 (.fresh 0 0 (!byT w)) []->Q (.ref s.heap.objs.size) { s with heap:=l }) :
  aE (model prog w) A (newSet (.type "set")) Q E s:=by
 refine aa (aa (cV (af ?_)));refine cB (fin _ _ rfl ?_);refine⟨ar _ rfl,⟨rfl,rfl,rfl⟩,rfl,λe he=>by simp at he,.refl _,.nil,by decide,by rfl,rfl,by delta Up;simp[l0]⟩
def yJ(T:s.TypeIs (.ref a) "set")(h:Q (.type "set") s):aE (model prog w) A (io.Frozenset.baseOf a) Q E s:=by
 exact aa (fX T kh (af h))
def Kb(x:pe prog w (!byT w) s.heap a o B D t M)(I:M.length<128)(fin:∀l,(∀b o,s.heap.get? b=Z o->l.get? b=Z o)->(∃o B D t,pe prog w (!byT w) l s.heap.objs.size o B D t M)->Q (.ref s.heap.objs.size) { s with heap:=l }):aE (model prog w) A (io.Frozenset.copyOf a) Q E s:=by
 have j :=aC x.ho;refine aa (yJ x.ty (aa (GR λl J e y=>?_)));subst e;refine aa (af ?_);refine aa (DA (x.at ?_) y (fo j) rfl rfl I λu sb z=>af (fin u (λb L H=>?_) z))
 .exact(ae _ x.ho).trans x.ho.symm
 .exact(sb.2 b (aM (aC H))).trans (ae _ H)
def pe.ext(x:pe prog w L h a o l B t M)(e:∀b o,h.get? b=Z o->D.get? b=Z o):pe prog w L D a o l B t M :=
 x.at ((e _ _ x.ho).trans x.ho.symm)
def VO{id:String}(x:pe prog w L s.heap a o B l t M)(h:Q () s):aE (model prog w) A (io.Frozenset.unchanged id a l) Q E s:=by
 refine aa (aa (br x.ho x.hd x.hf (af ?_)));rw[aN (by simp)];exact af h
def Tg(x:pe prog w L s.heap a o l B t M)(h:Q M.length s):aE (model prog w) A (io.Frozenset.sizeOf a) Q E s:=by
 refine aa (fw x.ho x.hd x.hf (af ?_));rw[x.len];exact h
def Qlp(x:pe prog w L s.heap a o B l t M)(h:Q l s):aE (model prog w) A (oz a) Q E s:=by
 exact aa (br x.ho x.hd x.hf (af h))
def Qdq{M N K:List Str}(l:M.Nodup)(B:K.Nodup)(h:∀j,j∈K↔j∈M/\j∉N):K.Perm (M.filter λj=>decide (j∉N)) :=
 (fJ B (l.filter _)).mpr λj=>by rw[h,aK,bM]
def yK{id:String}{r a:Addr}{ro o:Obj}{L D:Array (Int×Value)}{zx I:Nat}{rt t:dS}{M N:List Str}{Q:Unit->aH->Prop}(x:pe prog w (!byT w) s.heap r ro L zx rt M)(y:pe prog w (!byT w) s.heap a o D I t N)(ne:r≠a)(hM:M.length<64)(hN:¬N.length/8>M.length)(fin:∀l d K,bN r s.heap l->(∃o D I t,pe prog w (!byT w) l r o D I t K)->K.Perm (M.filter λj=>decide (j∉N))->Q () { s with heap:=l,drawn:=d }):aE (model prog w) A (kf id r (.ref a)) Q E s:=by
  delta kf;have nb:((d4 a)==.ref r)=U:=by
    rw[bc];exact λe=>ne (by cases e;rfl)
  rw[nb,aN (by decide)];refine aa (Tf y.ty ?_);refine aa (af (aa (Tg y (aa (Tg x ?_)))));rw[aN hN];refine aa (Qlp y (aa (b6 (aa (Qhk y (λb hb=>?_) λys d py=>?_)))))
  · rw[am]at hb
    subst hb;exact⟨_,_,_,_,_,_,x⟩
  · refine aa (jY _ (λpb b s'=>∃H l K,H++pb=ys.toList/\s'={ s with heap:=l,drawn:=d }/\bN r s.heap l/\(∃o D I t,pe prog w (!byT w) l r o D I t K) /\
        ∀j,j∈K↔j∈M/\j∉H.map λe=>rC e.2) _ ?_ ?_ _ _ ⟨[],s.heap,M,rfl,rfl,d5 _ _,⟨_,_,_,_,x⟩,λj=>by simp⟩)
    · rintro⟨n,v⟩ pb b s' ⟨H,l,K,e1,rfl,sb,⟨o1,T,zw,t1,J⟩,mem⟩
      have zy:(n,v)∈D.toList:=py.mem_iff.mp (by rw[<-e1];simp);obtain⟨v1,v2,v3⟩:=Xs y.el zy;cases v with
      |str k tk =>
        have av:n=(strKind prog w).hash k:=v2;subst av;dsimp only;refine aa (b6 (QmZ (s:={ s with heap:=l,drawn:=d }) J λbb u B z=>?_));have y2:pe prog w (!byT w) u a o D I t N:=y.at ((B.2 a (Ne.symm ne)).trans (sb.2 a (Ne.symm ne)));refine aa (VO (s:={ s with heap:=u,drawn:=d }) y2 (af ?_));refine⟨H++[((strKind prog w).hash k,.str k tk)],u,K.erase k,by rw[<-e1];simp,rfl,sb.trans B,z,λj=>?_⟩;rw[J.nd.mem_erase_iff,mem,bw,aS];show _↔j∈M/\¬(_\/j∈[k]);rw[am];constructor
        · rintro⟨q1,q2,q3⟩
          exact⟨q2,λq=>q.elim q3 q1⟩
        · rintro⟨q2,q⟩
          exact⟨λz=>q (.inr z),q2,λz=>q (.inl z)⟩
      |_=>exact absurd v1 (by simp[ic,gW])
    · rintro b s' ⟨H,l,K,e1,rfl,sb,⟨o1,T,zw,t1,J⟩,mem⟩
      rw[bB]at e1;subst e1;have pk:K.Perm (M.filter λj=>decide (j∉N)):=Qdq x.nd J.nd λj=>by
        rw[mem,((py.map λe:Int×Value=>rC e.2).trans y.ks).mem_iff]
      have kl:K.length<64:=by
        have:=pk.length_eq;have:=bf (λj=>decide (j∉N)) M;lia
      exact af (J9 (s:={ s with heap:=l,drawn:=d }) J kl λu B z=>fin u d K (sb.trans B) z pk)
def Qgp{id:String}{a b:Addr}{o bo:Obj}{D I:Array (Int×Value)}{T L:Nat}{t bt:dS}{M N:List Str}{Q:Value->aH->Prop}(x:pe prog w (!byT w) s.heap a o D T t M)(y:pe prog w (!byT w) s.heap b bo I L bt N)(hM:M.length<64)(fin:∀l d K,(∀b o,s.heap.get? b=Z o->l.get? b=Z o)->Yx prog w (!byT w) l s.heap.objs.size K->K.Perm (M.filter λj=>decide (j∉N))->Q (.ref s.heap.objs.size) { s with heap:=l,drawn:=d }) :
  aE (model prog w) A (lF id a (.ref b)) Q E s:=by
 delta lF;have blt:b<s.heap.objs.size:=aC y.ho;have H:a<s.heap.objs.size:=aC x.ho;refine aa (Tf y.ty ?_);refine aa (af ?_);refine aa (Tg y (aa (Tg x ?_)));by_cases hs:M.length/4>N.length
 .rw[aw hs];refine aa (fg (aa (Kb x (by lia) λl ext zz=>?_)));obtain⟨o1,zw,zy,t1,x1⟩:=zz;refine aa (af (aa (b6 ?_)));refine yK x1 (y.ext ext) (fo blt) hM (by lia) λav d K sb ⟨o2,ak,aJ,t2,z⟩ pk=>af ?_;exact fin av d K (λc B hc=>(sb.2 c (aM (aC hc))).trans (ext c B hc)) z.toL pk
 .rw[aN hs];refine aa (yJ x.ty (aa (GR λl o' e z=>?_)));have ext:∀c B,s.heap.get? c=Z B->l.get? c=Z B:=λc B hc=>by rw[e];exact ae _ hc
  have x':=x.ext ext;have y':=y.ext ext;refine aa (af (aa (Qlp (s:={ s with heap:=l }) x' (aa (b6 ?_)))));rw[aw rfl];refine aa (Qhj (s:={ s with heap:=l }) x' z (λc hc=>?_) λys h1 d py az ⟨o1,zw,zy,t1,z1⟩=>?_)
  .simp only[ap,d6,iw]at hc;rcases hc with rfl | rfl
   .exact⟨_,_,_,_,_,_,y'⟩
   .exact⟨_,_,_,_,_,_,z⟩
  .refine aa (jY _ (λpb _ s'=>∃u h2 K,u++pb=ys.toList/\s'={ s with heap:=h2,drawn:=d }/\bN s.heap.objs.size l h2/\Yx prog w (!byT w) h2 s.heap.objs.size K/\K.Nodup/\K.length<=u.length /\
    ∀j,j∈K↔(j∈u.map λe:Int×Value=>rC e.2)/\j∉N) _ ?_ ?_ _ _ ⟨[],h1,[],rfl,rfl,az,z1.toL,.nil,au _,λj=>by simp⟩)
   .rintro⟨n,v⟩ pb _ s' ⟨u,h2,K,e1,rfl,sb,zx,nd,kl,mem⟩;have aq:(n,v)∈D.toList:=py.mem_iff.mp (by rw[<-e1];simp);obtain⟨v1,v2,v3⟩:=Xs x.el aq;have ln:u.length+1<=M.length:=by
     have q1:=congrArg dt e1;have q2:=py.length_eq;have q3:=(bE (xs:=D)).trans x.len;rw[a0,aU]at q1;lia
    cases v with
    |str k tk =>
     have aj:n=(strKind prog w).hash k:=v2;subst aj;dsimp only;have y2:pe prog w (!byT w) h2 b bo I L bt N:=y'.at (sb.2 b (aM blt));have x2:pe prog w (!byT w) h2 a o D T t M:=x'.at (sb.2 a (aM H));refine aa (b6 ?_);rw[aw rfl];refine aa (yG (s:={ s with heap:=h2,drawn:=d }) y2 λrr f1 f2=>aa (af ?_));cases rr with
     |some i =>
      obtain⟨e,he,hk⟩:=f1 i rfl;have kN:k∈N:=y.ks.mem_iff.mp (aO.mpr ⟨e,bV he,hk⟩);rw[aN (by simp)];refine af (aa (VO (s:={ s with heap:=h2,drawn:=d }) x2 (af ?_)));refine⟨u++[((strKind prog w).hash k,.str k tk)],h2,K,by rw[<-e1];simp,rfl,sb,zx,nd,by rw[a0];lia,λj=>?_⟩;rw[mem,bw,aS];show _↔(_\/j∈[k])/\_;rw[am];exact⟨λq=>⟨.inl q.1,q.2⟩,λq=>⟨q.1.elim (λz=>z) λz=>absurd (z▸kN) q.2,q.2⟩⟩
     |none =>
      have kN:=f2 rfl;rw[aw (by simp)];refine aa (yd (s:={ s with heap:=h2,drawn:=d }) zx (by have:eD=4096:=rfl;lia) λbb h3 J z3=>af ?_);have x3:pe prog w (!byT w) h3 a o D T t M:=x2.at (J.2 a (aM H));refine aa (VO (s:={ s with heap:=h3,drawn:=d }) x3 (af ?_));refine⟨u++[((strKind prog w).hash k,.str k tk)],h3,Yw K k,by rw[<-e1];simp,rfl,sb.trans J,z3,XL nd k,?_,λj=>?_⟩
      .have:=QfH K k;rw[a0];show _<=u.length+1;lia
      .rw[QfJ,mem,bw,aS];show _↔(_\/j∈[k])/\_;rw[am];exact⟨λq=>q.elim (λq=>⟨.inl q.1,q.2⟩) λq=>⟨.inr q,q▸kN⟩,λq=>q.1.elim (λz=>.inl ⟨z,q.2⟩) .inr⟩
    |_=>exact absurd v1 (by simp[ic,gW])
   .rintro _ s' ⟨u,h2,K,e1,rfl,sb,zx,nd,kl,mem⟩;rw[bB]at e1;subst e1;refine af (af (fin h2 d K (λc B hc=>(sb.2 c (aM (aC hc))).trans (ext c B hc)) zx (Qdq x.nd nd λj=>?_)));rw[mem,((py.map λe:Int×Value=>rC e.2).trans x.ks).mem_iff]
end
section
def Qhs{M:List Str}{Q:Value->aH->Prop}(calm:A.handled=O)(hS:Yx prog w (!byT w) s.heap D M)(aq:M.length<64)(fin:∀(L:Addr) zx tk d out ns e,(∀b o,s.heap.get? b=Z o->zx.get? b=Z o)->s.heap.objs.size<=L->zx.get? L=Z (c6 "list" out e)->kK out.toList ns->ns.Perm M->sortedS ns=Y ->
   Q (.ref L) { s with heap:=zx,toks:=tk,drawn:=d }):aE (model prog w) A (call (.builtin "sorted") [.ref D]) Q E s:=by
 obtain⟨o,es,ep,t,ho,hex,hd,B,hm,hb,hf,hn,H,I⟩:=hS;have hC:qe s.heap D es ep t:=⟨o,ho,hex,hd,hf⟩
 refine ga nO mw my (mz _) ?_;refine aa (af ?_);refine aa (Qds calm hC I hb λh1 tk d ord k1 T J=>?_);have ol:ord.length=M.length:=by
  have:=J.length_eq;rw[this,<-hn];simp
 have x:pe prog w (!byT w) s.heap D o es ep t M:=by
  refine⟨ho,hex,hd,B,?_,H,hb,hf,I⟩;refine Vz H (λk hk=>?_) (by rw[ag,bE];lia);obtain⟨e,he,q⟩:=(hm k).mp hk;exact aO.mpr ⟨e,he,O8 q⟩
 have j:kK (ord.map (·.2)) (ord.map λe=>rC e.2):=by
  have key:∀e∈ord,(strKind prog w).is (rC e.2) e.2=Y:=λe he=>(Xs B (J.mem_iff.mp he)).1;clear J ol;induction ord with
  |nil=>exact .nil
  |cons y l ih =>
   obtain⟨n,v⟩:=y;have hy:=key (n,v) a7;cases v with
   |str k tk=>exact .cons k tk (ih λe he=>key e (ay _ he))
   |_=>exact absurd hy (by simp[ic,gW])
 have kM:(ord.map λe=>rC e.2).Perm M:=(J.map _).trans x.ks;refine aa (gU ?_);have vl:(ord.map (·.2)).length<64:=by rw[ag];lia
 have u:(h1.push (c6 "list" (ord.map (·.2)).toArray 0)).get? h1.objs.size=Z (c6 "list" (ord.map (·.2)).toArray 0):=ar _ rfl;refine aa (b6 (bS kB ⟨_,u,rfl⟩ jZ (list_sort_treeK strKind_oneLt u j.keysOf (λav az pb e=>keyKind_strs (by rw[<-e];exact j)) vl λaj a1 a2=>⟨_,rfl,?_⟩) (kC _)));obtain⟨zw,b1,b2,b3⟩:=sorted_out_str j a1 a2;obtain⟨e,zy⟩:=sortedHeap_at u;refine af ⟨_,rfl,fin h1.objs.size _ tk d _ zw e (λb o q=>?_) T zy b1 (b2.trans kM) b3⟩;have q1:=k1 b o q;have bl:=aC q1;rw[sortedHeap_old (aM bl) (by rw[bp];exact bQ bl)];exact ae _ q1
def Qfb:oA table "set.__sub__"=Z io.«frozenset.__sub__» :=
 lY (id' := "frozenset.__sub__") (by kernel_rfl) rfl (by decide+kernel) (by kernel_rfl)
def yL(x:Yx prog w (!byT w) s.heap a M)(y:Yx prog w (!byT w) s.heap b N)(B:M.length<64)(fin:∀l d K,(∀b o,s.heap.get? b=Z o->l.get? b=Z o)->Yx prog w (!byT w) l s.heap.objs.size K->K.Perm (M.filter λj=>decide (j∉N))->Q (.ref s.heap.objs.size) { s with heap:=l,drawn:=d }) :
  aE (model prog w) A (cu .Sub (.ref a) (.ref b)) Q E s:=by
 obtain⟨o,I,J,t,x⟩:=x.toK;obtain⟨L,u,D,zy,y⟩:=y.toK;refine wpAny_binaryOp_same x.ty y.ty PySem.F.fills_set_sub l8 ?_;refine bS l8 x.ty Qfb ?_ (PySem.F.args_set_sub_2 _ _);refine aa (af ?_);refine aa (aa (Tf x.ty (Tf y.ty ?_)));refine aa (af (aa (Qgp x y B λl d K k1 k2 H=>af ⟨_,rfl,by simp,fin l d K k1 k2 H⟩)))
end
section
def VP(hc:X.calm=Y):Yy X (.type "set") (λvs H Q=>∃(l:Addr)(ns:List Str),vs=[.ref l]/\qg X.K H l (ns.map V.str)/\ns.length<1000/\∀p M,H p=O->M.Perm (o5 ns)->Q (.ref p) (pf H p (ZK X p M))):=by
 intro B s T H vs us Q I rs h;obtain⟨l,ns,rfl,E,zw,q⟩:=h;obtain⟨u,rfl,J⟩:=Zx rs;cases J;obtain⟨t,D,L,_⟩:=I.list E;have j:=D.length;rw[ag]at j;refine(QfV (I.ok.hd hc) (by simpa using Qii D) (by simp only[aP];show t.length+1<4096;lia) λzy tk z k=>?_).2 L.isList;have e:t.toArray.size=ns.length:=by simp only[aP];exact j.symm
 rw[e]at z;refine⟨.ref s.heap.objs.size,pf H s.heap.objs.size (ZK X s.heap.objs.size _),I.laid (t':=tk) (λb o q=>k b o (aC q) q) (au _) ⟨z,?_,λh1 h2 zx k1=>zx.at k1⟩,rfl,q _ _ I.fresh (QdR ns)⟩;obtain⟨o,_,_,_,ho,_⟩:=z;exact⟨o,ho⟩
noncomputable def QcA(hc:X.calm=Y):Yy X (.builtin "sorted") (λvs H Q=>∃D M,vs=[.ref D]/\H D=Z (ZK X D M)/\M.length<64/\∀l ns,H l=O->ns.Perm M->sortedS ns=Y->Q (.ref l) (pf H l (.lst (ns.map V.str)))):=by
 intro t s σ H vs us Q I rs h;obtain⟨D,M,rfl,J,j,q⟩:=h;obtain⟨u,rfl,zx⟩:=Zx rs;cases zx;obtain⟨z,_,_⟩:=I.hok D _ J;refine Qhs (I.ok.hd hc) z j λL h' tk d out ns e k B at' T E hs=>?_;have zw:H L=O:=I.hok.fresh B;have zy:=Vq T;refine⟨.ref L,pf H L (.lst (ns.map V.str)),(I.laid (t':=tk) (o := .lst (ns.map V.str)) k B ⟨?_,out.toList,e,zy,by simpa[c6] using at'⟩).drawn d,rfl,q L ns zw E hs⟩;rw[ag,E.length_eq];exact cb (fL j (by decide))
def Qjn:qH X (cu .Sub) (λv u H Q=>∃a b M N,v = .ref a/\u = .ref b/\H a=Z (ZK X a M)/\H b=Z (ZK X b N)/\M.length<64/\∀p K,H p=O->K.Perm (M.filter λj=>decide (j∉N))->Q (.ref p) (pf H p (ZK X p K))):=by
 intro l s zy H v u v' u' Q I t B h;obtain⟨a,b,M,N,rfl,rfl,D,E,J,q⟩:=h;cases t;cases B;obtain⟨L,_,_⟩:=I.hok a _ D;obtain⟨zx,_,_⟩:=I.hok b _ E;refine yL L zx J λh' d K k z T=>?_;refine⟨.ref s.heap.objs.size,pf H s.heap.objs.size (ZK X s.heap.objs.size K),(I.laid (o:=ZK X s.heap.objs.size K) (t':=s.toks) k (au _) ⟨z,?_,λh1 h2 zw k1=>zw.at k1⟩).drawn d,rfl,q _ _ I.fresh T⟩;obtain⟨o,_,_,_,ho,_⟩:=z;exact⟨o,ho⟩
end
def Th:List PV->List PV->Option (List PV)
 | [.lst xs],[.lst ys]=>match strs? xs,strs? ys with
  |some ns,Z ks=>if ns.length<1000/\ks.length<1000/\(o5 ns).length<64 then Z ((QA ((o5 ns).filter λj=>decide (j∉ks))).map .str) else O
  |_,_=>O
 |_,_=>O
def VQ(l B:oN->Option (List PV)):oN->Option (List PV):=λj=>(l j).bind λx=>(B j).bind λy=>Th x y
def Ti:List PV->Option PV
 | [.lst xs]=>match strs? xs with
  |some ns=>if ns.length<1000 then Z (.int (o5 ns).length) else O
  |none=>O
 |_=>O
section
def VR{K:ab}(h:oP K F [.lst xs] vs):∃l us,vs=[.ref l]/\qg K F l us/\oP K F xs us:=by
 obtain⟨v,t,rfl,j,u⟩:=h;subst u;obtain⟨l,us,rfl,sl,B⟩:=j;exact⟨l,us,rfl,sl,B⟩
set_option tactic.hygienic true in
def uf(hc:X.calm=Y)(hg:Gl X "set")(hm:X.mg "set"=O)(aq:Gl X "sorted")(aj:X.mg "sorted"=O)(ha:AM X ms [a] ma)(hb:AM X ns [b] mb)(hs:ah [a] X.env=(U,eval a X.env)::ah [] X.env:=by rfl)(ak:(bA I (ah [] X.env)).any (·.1)=U:=by rfl)(aJ:ah [b] X.env=(U,eval b X.env)::ah [] X.env:=by rfl)(L:(bA B (ah [] X.env)).any (·.1)=U:=by rfl)(zx:ah [.BinOp (.Call (.Name "set" p1) [a] [] I) .Sub (.Call (.Name "set" p3) [b] [] B) D] X.env=(U,eval (.BinOp (.Call (.Name "set" p1) [a] [] I) .Sub (.Call (.Name "set" p3) [b] [] B) D) X.env)::ah [] X.env:=by rfl)(T:(bA zw (ah [] X.env)).any (·.1)=U:=by rfl) :
  EO X (ms++ns) (.Call (.Name "sorted" p2) [.BinOp (.Call (.Name "set" p1) [a] [] I) .Sub (.Call (.Name "set" p3) [b] [] B) D] [] zw) (VQ ma mb) :=
 PE.imp (Xe (QcA hc) aq aj (by kernel_rfl) (YD (wx Qjn (Zr (VP hc) hg hm (by kernel_rfl) ha (by decide) (by decide) hs ak) (Zr (VP hc) hg hm (by kernel_rfl) hb (by decide) (by decide) aJ L)) Ce zx) (by decide) (by decide) zx T) λσ H Q zz=>by
  obtain⟨F,γ,r,k1,k2,t,w⟩:=zz;obtain⟨qs,e1,t⟩:=Qc t;obtain⟨rs,e2,t⟩:=Qc t;refine⟨F,γ,qs,k1,k2.left,e1,λvs H1 F1 zy q1=>?_⟩;delta Th at t;split at t
  .obtain⟨l,us,rfl,sl,rl⟩:=VR q1;split at t
   .rename_i ns ks aZ bv;obtain⟨⟨c1,c2,c3⟩,rfl⟩:=Qi t;have bz:=Ye aZ rl;subst bz;refine⟨l,ns,rfl,zy.sub.seq sl,c1,λp M hp hM=>?_⟩;have g2:pd F1 H1 F1 (pf H1 p (ZK X p M)) := .side zy.sub hp;refine⟨F1,γ,_,g2.sub,k2.right.mono zy.ext,e2,λbZ H2 F2 g3 q2=>?_⟩;obtain⟨l2,cv,rfl,bq,X9⟩:=VR q2;have e3:=Ye bv X9;subst e3;refine⟨l2,ks,rfl,g3.sub.seq bq,c2,λu N bj hN=>?_⟩;have g4:pd F2 H2 F2 (pf H2 u (ZK X u N)) := .side g3.sub bj;refine⟨p,u,M,N,rfl,rfl,g4.same p _ (g3.same p _ Qf),Qf,by rw[hM.length_eq];exact c3,λE K av hK=>?_⟩;have g5:pd F2 (pf H2 u (ZK X u N)) F2 (pf (pf H2 u (ZK X u N)) E (ZK X E K)) := .side g4.sub av;have az:K.Perm ((o5 ns).filter λj=>decide (j∉ks)):=by
     refine(hK.trans (hM.filter _)).trans ?_;rw[nC (q:=λj=>decide (j∉ks)) λj _=>decide_eq_decide.mpr (not_congr (hN.mem_iff.trans QdU))]
    refine⟨E,K,rfl,Qf,?_,λl3 zs J hz bJ=>?_⟩
    .have:=bf (λj=>decide (j∉ks)) (o5 ns);have:=az.length_eq;lia
    have ez:zs=QA ((o5 ns).filter λj=>decide (j∉ks)):=M1 (hz.trans az) (YZ _ bJ);subst ez;have gA:=(g2.trans g3).trans (g4.trans g5);have g6:=gA.trans (.side (o := .lst ((QA ((o5 ns).filter λj=>decide (j∉ks))).map V.str)) gA.sub J);exact w l3 _ _ F2 (zy.trans g6) (zy.same.free (gA.same.free J)) (gA.sub.free J) Qf (YM _)
   .cases t
  .cases t
set_option tactic.hygienic true in
def ug(hc:X.calm=Y)(zy:Gl X "set")(hm:X.mg "set"=O)(zx:Gl X "len")(T:X.mg "len"=O)(ha:AM X ms [a] ma)(hs:ah [a] X.env=(U,eval a X.env)::ah [] X.env:=by rfl)(zw:(bA B (ah [] X.env)).any (·.1)=U:=by rfl)(D:ah [.Call (.Name "set" p1) [a] [] B] X.env=(U,eval (.Call (.Name "set" p1) [a] [] B) X.env)::ah [] X.env:=by rfl)(I:(bA L (ah [] X.env)).any (·.1)=U:=by rfl) :
  EM X ms (.Call (.Name "len" p2) [.Call (.Name "set" p1) [a] [] B] [] L) (Qb Ti ma) :=
 PE.imp (Xe QbG zx T kj (YD (Zr (VP hc) zy hm (by kernel_rfl) ha (by decide) (by decide) hs zw) Ce D) (by decide) (by decide) D I) λσ H Q zz=>by
  obtain⟨F,γ,r,k1,k2,j,w⟩:=zz;obtain⟨qs,e1,j⟩:=Qc j;refine⟨F,γ,qs,k1,k2,e1,λvs J t u q1=>?_⟩;delta Ti at j;split at j
  .obtain⟨l,us,rfl,sl,rl⟩:=VR q1;split at j
   .rename_i ns E;obtain⟨c1,rfl⟩:=Qi j;have e2:=Ye E rl;subst e2;refine⟨l,ns,rfl,u.sub.seq sl,c1,λp M hp hM=>?_⟩;refine⟨p,M,rfl,Qf,?_⟩;have g2:pd t J t (pf J p (ZK X p M)) := .side u.sub hp;rw[hM.length_eq];exact w _ _ t (u.trans g2) (Qp _)
   .cases j
  .cases j
end
section
def Tj{α:Type}{l:List α}{d:α}(h:i<l.length):l.getD i d=l[i]:=by
 rw[d8,aG h];rfl
def Qdi:∀{vs:List Value}{ns:List Str},kK vs ns->∀i,i<vs.length->∃l,vs[i]?=Z (.str (ns.getD i "") l)
 := by
 intro vs ns r;induction r with
 |nil=>intro i h;simp at h
 |cons y t r j =>
  intro i h;cases i with
  |zero=>exact⟨t,rfl⟩
  |succ i=>obtain⟨l,e⟩:=j i (by simpa using h);exact⟨l,by simpa using e⟩
def QlM{l:Addr}{vs:List Value}{ns:List Str}{k:Str}{t:Tok}{Q:Value->aH->Prop}(L:IsTup s.heap l vs.toArray)(I:kK vs ns)(M:k∈ns)(h:Q (.int (ns.idxOf k) s.toks) { s with toks:=s.toks+1 }):aE (model prog w) A (call (.builtin "tuple.index") [.ref l,.str k t]) Q E s:=by
 obtain⟨o,ho,hc,n,hd⟩:=L;refine bS kP ⟨_,ho,hc⟩ PySem.F.entry_tuple_index ?_ (PySem.F.args_tuple_index_2 _ _);refine aa (af ?_);refine aa (wpAny_tupleItemsOf ho hd (aa (af (aa (af (aa ?_))))));have H :=I.length;have J :=bH.mpr M;rw[Std.Legacy.Range.forIn_eq_forIn_range'];refine wpAny_forIn_list _ (λpb b s'=>b=⟨O,⟨⟩⟩/\s=s'/\∃i,pb=List.range' i (vs.length-i)/\i<=ns.idxOf k) _ ?_ ?_ _ _ ⟨rfl,rfl,0,?_,b9 _⟩
 .rintro x pb b s' ⟨rfl,rfl,i,hr,u⟩;have B:i<vs.length:=by lia
  have e1:vs.length-i=(vs.length-(i+1))+1:=by lia
  rw[e1,n0]at hr;obtain⟨rfl,rfl⟩:=List.cons.inj hr;obtain⟨zy,T⟩:=Qdi I x B;have D:vs.toArray[x]?=Z (.str (ns.getD x "") zy):=by simpa using T
  rw[D];refine aa (eqBool_str ?_);by_cases he:ns.getD x ""=k
  .have zx:x=ns.idxOf k:=by
    by_cases j:x<ns.idxOf k
    .have:=lC j;rw[Tj (show x<ns.length by lia)]at he;rw[he]at this;simp at this
    .lia
   rw[aw (by simpa using he)];subst zx;refine aa (aa (wpAny_mkInt (af (af (af ⟨_,rfl,h⟩)))))
  .rw[aN (by simpa using he)];refine af ⟨rfl,rfl,x+1,rfl,?_⟩;have:x≠ns.idxOf k:=λq=>he (by rw[q,Tj J,ft]);lia
 .rintro b s' ⟨rfl,rfl,i,hr,u⟩;have:=congrArg dt hr;rw[dO,List.length_range']at this;lia
 .simp[Std.Legacy.Range.size]
end
def ZF:PV->List PV->Option PV
 | .tup xs,[.str k]=>match strs? xs with
  |some ns=>if k∈ns then Z (.int (ns.idxOf k)) else O
  |none=>O
 |_,_=>O
def Tk:PV->Bool
 |.tup (.int _::_)=>U
 |.tup _=>Y
 |_=>U
def rQ(g:PV->List PV->Option PV)(m:pI)(l:oN->Option (List PV)):pI:=λj=>(m j).bind λp=>if Tk p=Y then (l j).bind λps=>g p ps else O
def tBT(K:ab)(r:V->List V->Hp->VK->Prop)(to:TE)(t:TA):TE:=λj H Q=>to j H λx l=>(∃a xs,x = .ref a/\qz K l a xs/\∀i y,xs≠[V.int i,y])/\t j l λxs u=>r x xs u Q
section
def Kc{X:Cx}{D:Pos}{l:Pos}{id:String}(slot:mV "tuple" name id)(zw:typeOf (.builtin id)=pure (.type "method_descriptor"))(hm:wM X id r)(ho:PE X o to)(ha:PA X (e::L) t)(M:bY o name X.env (eval o X.env)=eval o X.env:=by rfl)(T:((bA l (ah (e::L) X.env)).all (λx => !x.1)&&(dF l (cn [] X.env)).all (λx=>x.1.isSome)
   && decide ((e::L).length+([]:List dD).length+(if ([]:List dD).isEmpty then 0 else 1)<30))=Y:=by rfl)(zx:(D.endLine==l.line)=Y:=by rfl)(hs:ah (e::L) X.env=(U,eval e X.env)::ah L X.env:=by rfl)(B:(bA l (ah L X.env)).any (·.1)=U:=by rfl) :
  PE X (.Call (.Attribute o name D) (e::L) [] l) (tBT X.K r to t):=by
 intro j s u H Q I h;refine nL M T zx rfl (pA (ho j s u H _ I h) λv s1 zz=>?_);obtain⟨x,H1,I1,r1,⟨a,xs,hx,hS,hN⟩,q1⟩:=zz;subst hx;have E:=r1;cases r1;obtain⟨av,rv,⟨J,p1,p2,zy,p4⟩,_⟩:=I1.tupleD hS;have zy:J.dict=O:=by
  rcases zy with z|⟨i,y,z⟩
  .exact z
  .exact absurd z (hN i y)
 refine⟨"tuple",id,PySem.F.plainAttrs_tuple,slot,zw,⟨J,p1,p2⟩,λa e=>by cases e;exact⟨J,p1,zy⟩,?_⟩;have hA:=ha l j s1 u H1 _ I1 q1;rw[hs]at hA |-;refine jg (by show(U||(bA l (ah L X.env)).any (·.1))=U;rw[B]<;>rfl) (oI ?_);exact pA hA λus s2 ⟨vs,H2,I2,r2,q2⟩=>hm j s2 u H2 _ vs _ us Q I2 E r2 q2
def Kd(h:EM X ms o m)(ha:AM X ns (e::I) L)(M:PE X (.Call (.Attribute o name B) (e::I) [] D) (tBT X.K (BJ X.K g) (tM X.K ms m) (vc X.K ns L))):EM X (ms++ns) (.Call (.Attribute o name B) (e::I) [] D) (rQ g m L) :=
 PE.imp M λσ H Q ⟨F,J,r,k1,k2,j,w⟩=>by
  obtain⟨p,e1,j⟩:=Qc j;cases p with
  |tup xs =>
   have T:Tk (.tup xs)=Y:=by
    by_cases c:Tk (.tup xs)=Y
    .exact c
    .rw[aN c]at j;cases j
   rw[aw T]at j;obtain⟨ps,e2,j⟩:=Qc j;refine⟨F,J,.tup xs,k1,k2.left,e1,λv H1 zx t u=>⟨?_,zx,J,ps,t.sub,k2.right.mono t.ext,e2,λvs H2 zw E zy=>?_⟩⟩
   .unfold o3 at u;obtain⟨a,vs,rfl,sq,l⟩:=u;refine⟨a,vs,rfl,t.sub.seqT sq,λi y z=>?_⟩;subst z;cases xs with
    |nil=>unfold oP at l;cases l
    |cons p ps =>
     unfold oP at l;obtain⟨v1,t1,e5,l,_⟩:=l;cases e5;cases p<;>unfold o3 at l<;>first | (cases T;done) | (cases l;done) | (obtain⟨_,_,z,_⟩:=l;cases z;done) | (obtain⟨_,_,_,z,_⟩:=l;cases z;done)
   .exact⟨zw,.tup xs,ps,r,E.sub,u.mono E.ext,zy,j,w.go (t.trans E)⟩
  |_=>rw[aN (λz=>by cases z)]at j;cases j
set_option tactic.hygienic true in
def Qmp:wM X "tuple.index" (BJ X.K ZF):=by
 intro t s T H x xs v us Q I B rs h;obtain⟨F,p,ps,r,h1,h2,h3,j,w⟩:=h;delta ZF at j;split at j
 .split at j
  .rename_i ys l;obtain⟨c,rfl⟩:=Qi j;obtain⟨a,ws,rfl,k2,D⟩:=h2;cases B;obtain⟨zw,zy,rfl,h3,E⟩:=h3;subst E;subst h3;obtain⟨u,rfl,J⟩:=Zx rs;obtain⟨tk,rfl⟩:=J;have e3:=Ye l D;subst e3;obtain⟨L,M,zx,_⟩:=I.tuple (h1.seqT k2);exact QlM zx (YL M) c ⟨.int _,H,I.tok _,⟨_,rfl⟩,w.here h1 (Qp _)⟩
  .cases j
 .cases j
def vI(h:EM X ms o m)(T:AM X ns (e::L) zx)(D:bY o "index" X.env (eval o X.env)=eval o X.env:=by rfl)(M:((bA l (ah (e::L) X.env)).all (λx => !x.1)&&(dF l (cn [] X.env)).all (λx=>x.1.isSome)
   && decide ((e::L).length+([]:List dD).length+(if ([]:List dD).isEmpty then 0 else 1)<30))=Y:=by rfl)(I:(zy.endLine==l.line)=Y:=by rfl)(hs:ah (e::L) X.env=(U,eval e X.env)::ah L X.env:=by rfl)(B:(bA l (ah L X.env)).any (·.1)=U:=by rfl) :
  EM X (ms++ns) (.Call (.Attribute o "index" zy) (e::L) [] l) (rQ ZF m zx) :=
 Kd h T (Kc kP PySem.F.type_tuple_index Qmp h T D M I hs B)
def vJ(ms:List Nat)(m:pI):pW:=λj=>(m j).map λr=>.nx (QZ (flat r) ms j)
def Ke(h:EM X ms e m)(hs:c7 e O l.line X.env=pure U:=by rfl):SM X (.Expr e l) (vJ ms m):=PS.imp (MO h hs) λD zx H u=>by
 obtain⟨B,j,F,E,o,S,e,ok⟩:=u;obtain⟨r,e1,e2⟩:=Zi e;subst e2;obtain⟨I,t,T,J⟩:=S.see ms;refine⟨I,E,r,t.sub,J,e1,λv zw zy g q=>?_⟩;obtain⟨L,M,q2⟩:=S.val t g q;exact ok _ _ L M
end
end L2.PM
namespace L2.PM
open PySem PySem.Spec PyProof.Rows HT
end L2.PM
namespace L2.PM
open PySem PySem.Spec PyProof.Rows
def yM(ms:List Nat)(i:Nat)(m:pI):pW:=λj=>(m j).bind λr=>match r with
 |.tup _=>JD ms i m j
 |_=>JN ms i m j
section
def GS(K:ab):V->List V->Hp->VK->Prop:=λx xs H Q=>GK K x xs H Q\/GL K x xs H Q
def Kf:NR X "list.extend" (GS X.K):=λj s l H x xs v us Q I t rs h=>h.elim (C9 j s l H x xs v us Q I t rs) (JO j s l H x xs v us Q I t rs)
set_option tactic.hygienic true in
def Kg(hx:PE X (.Name x p2) (qN i))(h:EM X ms e m)(ps:PS X (.Expr (.Call (.Attribute (.Name x p2) "extend" I) [e] [] L) zx) (MN (MV X.K "list" (GS X.K) (qN i) (vc X.K ms (Qa m oK))))) :
  SM X (.Expr (.Call (.Attribute (.Name x p2) "extend" I) [e] [] L) zx) (yM ms i m):=PS.imp ps λD σ H zz=>by
 obtain⟨B,av,F,γ,o,S,e,ok⟩:=zz;obtain⟨r0,e0,e⟩:=Qc e;split at e
 .obtain⟨r,e1,e⟩:=Qc e;delta xW at e;split at e
  .rename_i ys xs E;obtain⟨⟨T,c⟩,rfl⟩:=Qi e;obtain⟨a,vs,h1,h2,_⟩:=S.ow i xs E;obtain⟨zw,J,x1,zy⟩:=S.see ms;refine⟨.ref a,h1,Sz (.of h2),zw,γ,[.tup ys],J.sub,zy,by simp[Qa,oK,e1],λus H' F' g q=>?_⟩;obtain⟨v,t,rfl,q,qt⟩:=q;subst qt;obtain⟨F2,l,q2⟩:=S.val J g q;have j:=Sx (k:=flat (.tup ys)) E (by rw[c];exact jF _);obtain⟨a2,u,k1,k2,M,_⟩:=l.ow i xs j;rw[h1]at k1;cases k1;obtain⟨b,ws,rfl,sb,rb⟩:=q2;refine .inl ⟨a,b,u,ws,rfl,rfl,k2,l.sub.seqT sb,?_,?_⟩
   .rw[M.length,rb.length];exact cb (aF T QO)
   .exact ok _ _ F2 (l.write j h1 (M.append rb))
  .cases e
 .obtain⟨r,e1,e⟩:=Qc e;delta yb at e;split at e
  .rename_i ys xs E;obtain⟨⟨T,c⟩,rfl⟩:=Qi e;obtain⟨a,vs,h1,h2,_⟩:=S.ow i xs E;obtain⟨zw,J,x1,zy⟩:=S.see ms;refine⟨.ref a,h1,Sz (.of h2),zw,γ,[.lst ys],J.sub,zy,by simp[Qa,oK,e1],λus H' F' g q=>?_⟩;obtain⟨v,t,rfl,q,qt⟩:=q;subst qt;obtain⟨F2,l,q2⟩:=S.val J g q;have j:=Sx (k:=flat (.lst ys)) E (by rw[c];exact jF _);obtain⟨a2,u,k1,k2,M,_⟩:=l.ow i xs j;rw[h1]at k1;cases k1;obtain⟨b,ws,rfl,sb,rb⟩:=q2;refine .inr ⟨a,b,u,ws,rfl,rfl,k2,l.sub.seq sb,?_,?_⟩
   .rw[M.length,rb.length];exact cb (aF T QO)
   .exact ok _ _ F2 (l.write j h1 (M.append rb))
  .cases e
end
end L2.PM
namespace L2.PM
open PySem PySem.Spec PyProof.Rows PySem.W
section
def M6(l:Nat->Nat->(Bool->aH->Prop)->aH->Prop)(lt:Nat->Nat->Bool)(n:Nat)(s:aH):Prop:=∀i j C,i<n->j<n->C (lt i j) s->l i j C s
def uN(lt:Nat->Nat->Bool)(p:Array Nat)(k:Nat):Prop:=∀a b,a<=b->b<k->lt (p.getD b 0) (p.getD a 0)=U
def Within(p:Array Nat)(n:Nat):Prop:=∀a,a<p.size->p.getD a 0<n
theorem VS(B:∀i j k,lt i j=U->lt j k=U->lt i k=U)(an:M6 L lt n s)(M:k<p.size)(D:Within p n)(hs:uN lt p k) :
  ∀f l r,r-l<=f->l<=r->r<=k->(∀a,a<l->lt (p.getD k 0) (p.getD a 0)=U)->(∀b,r<=b->b<k->lt (p.getD k 0) (p.getD b 0)=Y) ->
   (∀I,I<=k->(∀a,a<I->lt (p.getD k 0) (p.getD a 0)=U)->(∀b,I<=b->b<k->lt (p.getD k 0) (p.getD b 0)=Y)->Q I s)->(kas_place p k f l r).kasWp L Q s
 |0,l,r,hf,H,hr,h1,h2,fin=>by
  obtain rfl:l=r:=by omega
  exact fin l hr h1 h2
 |f+1,l,r,hf,H,hr,h1,h2,fin=>by
  unfold kas_place;by_cases t:l>=r
  .rw[aw t];obtain rfl:l=r:=by omega
   exact fin l hr h1 h2
  .rw[aN t];have u:l<=(l+r)/2:=by omega
   refine an _ _ _ (D k M) (D _ (by omega)) ?_;cases c:lt (p.getD k 0) (p.getD ((l+r)/2) 0) with
   |true =>
    refine(?_);refine VS B an M D hs f l ((l+r)/2) (by omega) u (by omega) h1 (λb J E=>?_) fin;cases d:lt (p.getD k 0) (p.getD b 0) with
    |true=>rfl
    |false=>rw[B _ _ _ d (hs _ b J E)]at c;cases c
   |false =>
    refine(?_);refine VS B an M D hs f ((l+r)/2+1) r (by omega) (by omega) hr (λa zy=>?_) h2 fin;exact B _ _ _ c (hs a _ (by omega) (by omega))
def VT(B:k<p.size)(D:l<=k) j:(bubble p k (k-l)).getD j 0=if j=l then p.getD k 0 else if l<j/\j<=k then p.getD (j-1) 0 else p.getD j 0:=by
 have e:k-(k-l)=l:=by lia
 have g:∀(q:Array Nat) i,q.getD i 0=(q[i]?).getD 0:=λq i=>by
  by_cases h:i<q.size
  .simp[ h]
  .simp[ h]
 rw[g,getElem?_bubble B (k-l) (by lia) j,e,g,g,g];by_cases h1:j=l
 .rw[aw h1,aw h1]
 .rw[aN h1,aN h1];by_cases h2:l<j/\j<=k
  .rw[aw h2,aw h2]
  .rw[aN h2,aN h2]
def QlZ(D:∀i,lt i i=U)(B:∀i j,lt i j=Y->lt j i=U)(I:k<p.size)(L:l<=k)(hs:uN lt p k)(h1:∀a,a<l->lt (p.getD k 0) (p.getD a 0)=U)(h2:∀b,l<=b->b<k->lt (p.getD k 0) (p.getD b 0)=Y):uN lt (bubble p k (k-l)) (k+1):=by
 intro a b t E;rw[VT I L,VT I L];by_cases e1:b=l
 .rw[aw e1];by_cases e2:a=l
  .rw[aw e2];exact D _
  .rw[aN e2,aN (by lia)];exact h1 a (by lia)
 .rw[aN e1];by_cases e2:a=l
  .rw[aw e2,aw (by lia)];exact B _ _ (h2 (b-1) (by lia) (by lia))
  .rw[aN e2];by_cases e3:l<b/\b<=k
   .rw[aw e3];by_cases u:l<a/\a<=k
    .rw[aw u];exact hs (a-1) (b-1) (by lia) (by lia)
    .rw[aN u];exact hs a (b-1) (by lia) (by lia)
   .rw[aN e3,aN (by lia)];exact hs a b t (by lia)
theorem yN(D:∀i,lt i i=U)(B:∀i j,lt i j=Y->lt j i=U)(I:∀i j k,lt i j=U->lt j k=U->lt i k=U)(an:M6 M lt n s) :
  ∀f p k,k+f=p.size->Within p n->uN lt p k->(∀L,L.Perm p->uN lt L p.size->Q L s)->(kas_bin f p k).kasWp M Q s
 |0,p,k,hf,t,hs,fin=>fin p (.refl p) (by grind)
 |f+1,p,k,hf,t,hs,fin=>by
  have u:k<p.size:=by lia
  unfold kas_bin;rw[ik];refine VS I an u t hs k 0 k (by lia) (b9 _) (au _) (by grind) (by grind) λl E h1 h2=>?_;have sz:(bubble p k (k-l)).size=p.size:=bubble_size _ _ _;refine yN D B I an f _ (k+1) (by grind) (λa H=>?_) (QlZ D B u E hs h1 h2) λL pp hr=>fin L (pp.trans (bubble_perm _ _ _)) (by grind);rw[sz]at H;rw[VT u E];by_cases J:a=l
  .rw[aw J];exact t k u
  .rw[aN J];by_cases zy:l<a/\a<=k
   .rw[aw zy];exact t _ (by lia)
   .rw[aN zy];exact t a H
end
section
theorem VU(l:∀i,lt i i=U)(B:∀i j k,lt i j=U->lt j k=U->lt i k=U)(an:M6 D lt n s)(I:Within p n) :
  ∀f k,1<=k->k+f<=p.size->uN lt p k->(∀m,k<=m->m<=k+f->uN lt p m->(m<k+f->lt (p.getD m 0) (p.getD (m-1) 0)=Y)->Q m s)->(kas_asc p f k).kasWp D Q s
 |0,k,h1,u,hs,fin=>fin k (au _) (au _) hs λh=>absurd h (cp _)
 |f+1,k,h1,u,hs,fin=>by
  refine an _ _ _ (I k (by lia)) (I _ (by lia)) ?_;cases c:lt (p.getD k 0) (p.getD (k-1) 0) with
  |true=>exact fin k (au _) (by lia) hs λ_=>c
  |false =>
   refine(?_);refine VU l B an I f (k+1) (by lia) (by lia) (λa b t J=>?_) λm h2 h3 E H=>fin m (by lia) (by lia) E λh=>H (by lia);by_cases e:b=k
   .subst e;by_cases e2:a=b
    .rw[e2];exact l _
    .exact B _ _ _ c (hs a (b-1) (by lia) (by lia))
   .exact hs a b t (by lia)
def yO(lt:Nat->Nat->Bool)(p:Array Nat)(k:Nat):Prop:=∀a b,a<b->b<k->lt (p.getD b 0) (p.getD a 0)=Y
theorem Qly(trans:∀i j k,lt i j=Y->lt j k=Y->lt i k=Y)(an:M6 D lt n s)(B:Within p n)(l:∀a b,a<b->b<p.size->lt (p.getD b 0) (p.getD a 0)=U->lt (p.getD a 0) (p.getD b 0)=Y) :
  ∀f k,1<=k->k+f<=p.size->yO lt p k->(∀m,k<=m->m<=k+f->yO lt p m->Q (p,m,0) s)->(kas_desc f p k 0).kasWp D Q s
 |0,k,h1,u,hs,fin=>fin k (au _) (au _) hs
 |f+1,k,h1,u,hs,fin=>by
  refine an _ _ _ (B k (by omega)) (B _ (by omega)) ?_;cases c:lt (p.getD k 0) (p.getD (k-1) 0) with
  |true =>
   refine(?_);refine Qly trans an B l f (k+1) (by omega) (by omega) (λa b t H=>?_) λm h2 h3 E=>fin m (by omega) (by omega) E;by_cases e:b=k
   .subst e;by_cases e2:a=b-1
    .rw[e2];exact c
    .exact trans _ _ _ c (hs a (b-1) (by lia) (by lia))
   .exact hs a b t (by omega)
  |false =>
   refine(?_);refine an _ _ _ (B _ (by omega)) (B k (by omega)) ?_;rw[l (k-1) k (by lia) (by omega) c];exact fin k (au _) (by omega) hs
def VV(l:k<=p.size) j:(mx p 0 k).getD j 0=if j<k then p.getD (k-1-j) 0 else p.getD j 0:=by
 have g:∀(q:Array Nat) i,q.getD i 0=(q[i]?).getD 0:=λq i=>by
  by_cases h:i<q.size
  .simp[ h]
  .simp[ h]
 delta mx;rw[g,getElem?_mirror_all l j,g,g];by_cases h:j<k
 .rw[aw ⟨b9 _,h⟩,aw h,iK]
 .rw[aN (λz=>h z.2),aN h]
def QlY(B:∀i,lt i i=U)(l:∀i j,lt i j=Y->lt j i=U)(D:k<=p.size)(h:yO lt p k):uN lt (mx p 0 k) k:=by
 intro a b t u;rw[VV D,VV D,aw u,aw (by lia)];by_cases e:a=b
 .rw[e];exact B _
 .exact l _ _ (h (k-1-b) (k-1-a) (by lia) (by lia))
def DB(l:∀i,lt i i=U)(D:∀i j,lt i j=Y->lt j i=U)(I:∀i j k,lt i j=U->lt j k=U->lt i k=U)(trans:∀i j k,lt i j=Y->lt j k=Y->lt i k=Y)(M:∀i j,i<n->j<n->i≠j->lt i j=U->lt j i=Y)(an:M6 L lt n s)(h2:2<=n){Q:Array Nat->aH->Prop}(fin:∀p,p.Perm (ai n).toArray->uN lt p n->Q p s):(kas_sort n).kasWp L Q s:=by
 delta kas_sort;have u:(ai n).toArray.size=n:=by simp
 have zy:∀a,a<n->(ai n).toArray.getD a 0=a:=λa H=>by simp[Array.getD,H]
 have E:Within (ai n).toArray n:=λa H=>by rw[u]at H;rw[zy a H];exact H
 generalize (ai n).toArray=p at *;have last:∀(m:Nat)(B:Array Nat),B.Perm p->1<=m->m<=n->Within B n->uN lt B m->KasT.kasWp L (if m<n then kas_bin (n-max m 1) B (max m 1) else .ret B) Q s:=λm B pp h1 hm hw hr=>by
  have sz:B.size=n:=by rw[pp.size_eq];exact u
  by_cases J:m<n
  .rw[aw J,Nat.max_eq_left h1];exact yN l D I an (n-m) B m (by lia) hw hr λav q1 q2=>fin av (q1.trans pp) (by rw[<-sz];exact q2)
  .rw[aN J];obtain rfl:m=n:=by lia
   exact fin B pp hr
 have t:∀a b,a<b->b<p.size->lt (p.getD b 0) (p.getD a 0)=U->lt (p.getD a 0) (p.getD b 0)=Y:=λa b zx T e=>by
  rw[u]at T;rw[zy a (by lia),zy b T]at e |-;exact M b a T (by lia) (by lia) e
 rw[ik];delta kas_count;rw[ik];refine VU l I an E (n-1) 1 (au _) (by lia) (λa b zx T=>by rw[show a=b by lia];exact l _) λm m1 m2 m3 m4=>?_;by_cases e1:(m==n)=Y
 .rw[aw e1];exact last m p (.refl p) m1 (by lia) E m3
 .rw[aN e1];by_cases e2:m>1
  .rw[aw e2];refine an _ _ _ (E 0 (by lia)) (E _ (by lia)) ?_;rw[t 0 (m-1) (by lia) (by lia) (m3 0 (m-1) (by lia) (by lia))];exact last m p (.refl p) m1 (by lia) E m3
  .rw[aN e2];obtain rfl:m=1:=by lia
   have c:=m4 (by lia);delta kas_descPart;rw[ik];refine Qly trans an E t (n-(1+1)) (1+1) (by lia) (by lia) (λa b zx T=>?_) λk k1 k2 k3=>?_
   .obtain rfl:a=0:=by lia
    obtain rfl:b=1:=by lia
    exact c
   .refine(show KasT.kasWp L (kas_tail3 k n p) _ s from ?_);delta kas_tail3;rw[ik];have rs:(mx p 0 k).size=n:=by delta mx;rw[mirror_size];exact u
    have zw:Within (mx p 0 k) n:=λa H=>by
     rw[rs]at H;rw[VV (by lia)];by_cases h:a<k
     .rw[aw h];exact E _ (by lia)
     .rw[aN h];exact E a (by lia)
    refine VU l I an zw (n-k) k (by lia) (by lia) (QlY l D (by lia) k3) λm' q1 q2 q3 q4=>?_;exact last m' _ (mirror_perm _ _ _ _) (by lia) (by lia) zw q3
end
abbrev sS:=Str×Str×Str
def rn:sS:=("","","")
def M7(a b:Str):Bool:=decide (a.cps.toList<b.cps.toList)
def GV(h:Heap)(v:Value)(t:sS):Prop:=∃a o n k1 k2 j,v = .ref a/\h.get? a=Z o/\o.cls = .type "tuple"/\o.data = .seq #[.str t.1 k1,.str t.2.1 k2,.str t.2.2 j] n
def uh(h:Heap)(vs:List Value)(l:List sS):Prop:=vs.length=l.length/\∀i,i<l.length->GV h (vs.getD i .none) (l.getD i rn)
def tW(l:List sS)(i j:Nat):Bool:=M7 (l.getD i rn).2.1 (l.getD j rn).2.1
def uh.tl(x:uh h (v::vs) (t::l)):GV h v t/\uh h vs l :=
 ⟨x.2 0 (by simp),by have:=x.1;simpa using this,λi j=>x.2 (i+1) (by simpa using j)⟩
section
def Kh{v u:Value}{x y:sS}{C:Bool->aH->Prop}(l:GV s.heap v x)(B:GV s.heap u y)(e1:x.1=y.1)(e2:x.2.1=y.2.1->x=y)(h:C (M7 x.2.1 y.2.1) s) :
  aE (model prog w) A (keyLt' (tuples' Y) v u) C E s:=by
 obtain⟨a,o,n,k1,k2,H,rfl,j,_,hd⟩:=l;obtain⟨b,p,m,I,J,L,rfl,t,_,he⟩:=B;refine kat_lt j hd t he ?_;refine kat_cons (gP ?_);rw[a8 e1];refine kat_yes (kat_cons (gP ?_));by_cases c:x.2.1=y.2.1
 .rw[a8 c];have e3:=e2 c;refine kat_yes (kat_cons (gP ?_));rw[a8 (show x.2.2=y.2.2 by rw[e3])];refine kat_yes (kat_nil ?_);have D:M7 x.2.1 y.2.1=U:=by rw[c];exact a5 (kx _)
  rw[D]at h;exact h
 .rw[a5 c];exact kat_no (kat_one _ _ (PyProof.Rows.lt_str h))
theorem Qdh:∀{vs:List Value}{l:List sS},uh h vs l->∃fs,KatTups h vs fs/\fs.length=vs.length/\∀v∈fs,∃x t,v = .str x t
 |[],[],_=>⟨[],.nil,rfl,λ_ h=>nomatch h⟩
 |[],_::_,x=>by have:=x.1;simp at this
 |_::_,[],x=>by have:=x.1;simp at this
 |v::vs,t::l,x=>by
  obtain⟨⟨a,o,n,k1,k2,B,rfl,u,hc,hd⟩,y⟩:=x.tl;obtain⟨fs,h1,h2,h3⟩:=Qdh y;refine⟨.str t.1 k1::fs,KatTups.cons u hc hd rfl h1,by simp[h2],λv j=>?_⟩;rcases ap.mp j with rfl | j
  .exact⟨_,_,rfl⟩
  .exact h3 v j
def Qhl(T:uh s.heap vs l)(D:∀t∈l,t.1=k)(I:(l.map (·.2.1)).Nodup):M6 (kas_ask prog w A (tuples' Y) vs) (tW l) vs.length s:=by
 intro i j C u B h;rw[T.1]at u B;have E:l.getD i rn=l[i]:=by simp[ u]
 have H:l.getD j rn=l[j]:=by simp[ B]
 refine Kh (T.2 i u) (T.2 j B) ?_ (λe=>?_) h
 .rw[E,H,D _ (bu u),D _ (bu B)]
 .rw[E,H]at e |-;have :=by
   have q:=(kw.mp I)
   by_cases c:i=j
   .exact c
   .exfalso;rw[eF]at q;rcases mW c with c | c
    .exact q i j (by simpa using u) (by simpa using B) c (by simpa using e)
    .exact q j i (by simpa using B) (by simpa using u) c (by simpa using e.symm)
  subst this;rfl
def yP l:(∀i,tW l i i=U)/\(∀i j,tW l i j=Y->tW l j i=U)/\(∀i j k,tW l i j=U->tW l j k=U->tW l i k=U)/\(∀i j k,tW l i j=Y->tW l j k=Y->tW l i k=Y):=by
 delta tW M7;refine⟨λi=>a5 (kx _),λi j h=>?_,λi j k h1 h2=>?_,λi j k h1 h2=>?_⟩
 .rw[hZ]at h;exact a5 λt=>kx _ (List.lt_trans h t)
 .rw[ix]at *;exact List.le_trans h2 h1
 .rw[hZ]at *;exact List.lt_trans h1 h2
def Qgk{a:Addr}{vs:List Value}{B:List sS}{k:Str}{n:Nat}{P:PySem.Fin->aH->Prop}(ho:s.heap.get? a=Z (c6 "list" vs.toArray n))(hT:∀h' ,(∀b o,b≠a->s.heap.get? b=Z o->h'.get? b=Z o)->uh h' vs B)(hk:∀t∈B,t.1=k)(hn:(B.map (·.2.1)).Nodup)(zw:vs.length<64)(h:∀p ,p.Perm (ai vs.length).toArray->uN (tW B) p vs.length->P (.done (.ret .none)) { s with heap:=sortedHeap s.heap a vs (p.toList.map λi=>vs.getD i fj).toArray }) :
  aE (model prog w) A (io.«list.sort» ⟨[.ref a],[]⟩) P E s:=by
 rw[list_sort_plain];refine aa (listItems_at ho rfl ?_);refine aa (lc ho rfl ?_);obtain⟨e1,H⟩:∃e1,(s.heap.update a (cT λ_ => #[])).get? a=Z (c6 "list" #[] e1):=⟨_,get?_update_seq ho (λ_ => #[])⟩
 refine aa (seqEpoch_at H rfl ?_);refine aa (wpAny_newTuple ?_);refine aa (gU ?_);refine b6 ?_;have u:(((s.heap.update a (cT λ_ => #[])).push (c6 "tuple" vs.toArray 0)).push (c6 "list" #[] 0)).get? a=Z (c6 "list" #[] e1):=ae _ (ae _ H);have zy:=hT (((s.heap.update a (cT λ_ => #[])).push (c6 "tuple" vs.toArray 0)).push (c6 "list" #[] 0)) λb o hb q=>ae _ (ae _ (by rw[Heap.get?_update_ne _ _ _ _ hb];exact q));dsimp only;have I:vs.toArray.size=vs.length:=by simp
 have fin:∀(l:SortSt)(p:Array Nat),p.Perm (ai vs.length).toArray->uN (tW B) p vs.length->arrOf l=p.map (kas_item (vs.toArray.zip vs.toArray)) ->
   P (.done (.ret .none)) { s with heap:=sortedHeap s.heap a vs ((arrOf l).map (·.2)) }:=λl p h1 h2 h3=>by
  rw[kat_snds rfl h3];exact h p h1 h2
 obtain⟨l1,l2,l3,l4⟩:=yP B;by_cases h2:vs.toArray.size<2
 .rw[aw h2,aw h2];refine aa (af ?_);rw[StateT.run_pure];refine aa (af ?_);dsimp only;refine aa (seqEpoch_at u rfl ?_);refine aa (lc u rfl ?_ (hsz2:=by rw[fK];show(pairsOf vs).size<=_;rw[pairsOf_size,hh];lia));simp only[jw,et,gG];refine af (fin (SortSt.mk' general' (vs.toArray.zip vs.toArray) #[] 7 O) (ai vs.length).toArray (Array.Perm.refl _) (λi j J L=>?_) ?_)
  .rw[I]at h2;have:i=j:=by lia
   subst this;exact l1 _
  .have e:=kas_range (vs.toArray.zip vs.toArray);rw[show(vs.toArray.zip vs.toArray).size=vs.length by simp]at e;exact e.symm
 .rw[aN h2,aN h2];rw[I]at h2;obtain⟨fs,f1,f2,f3⟩:=Qdh zy;refine aa (kat_kind (T:=Value.type "str") f1 (by lia) (λv hv=>?_) rfl ?_)
  .obtain⟨x,t,rfl⟩:=f3 v hv;exact Looks.now
  .rw[show(Value.type "str" != Value.type "tuple")=Y from rfl];refine aa (fh (kat_run (κ:=tuples' Y) (vs:=vs) (ks:=vs) (Q:=λl s'=>s'={ s with heap:=((s.heap.update a (cT λ_ => #[])).push (c6 "tuple" vs.toArray 0)).push (c6 "list" #[] 0) }/\failedOf l=O/\∃p:Array Nat,p.Perm (ai vs.length).toArray/\uN (tW B) p vs.length/\arrOf l=p.map (kas_item (vs.toArray.zip vs.toArray)))
    (G:=λp s'=>s'={ s with heap:=((s.heap.update a (cT λ_ => #[])).push (c6 "tuple" vs.toArray 0)).push (c6 "list" #[] 0) }/\p.Perm (ai vs.length).toArray/\uN (tW B) p vs.length)
    rfl (by lia) zw (λp l s' _ a2 a3 a4=>⟨a4.1,a3,p,a4.2.1,a4.2.2,a2⟩) ?_) ?_ λ_ _ e=>e)
   .refine DB l1 l2 l3 l4 (λi j M L J D=>?_) (Qhl zy hk hn) (by lia) λp zx q2=>⟨rfl,zx,q2⟩
    rw[zy.1]at M L;have gi:B.getD i rn=B[i]:=by simp[List.getD,M]
    have gj:B.getD j rn=B[j]:=by simp[List.getD,L]
    have ne:B[i].2.1≠B[j].2.1:=λe=>by
     have q:=eF.mp (kw.mp hn);rcases mW J with c | c
     .exact q i j (by simpa using M) (by simpa using L) c (by simpa using e)
     .exact q j i (by simpa using L) (by simpa using M) c (by simpa using e.symm)
    delta tW M7 at D |-;rw[gi,gj]at D;rw[gi,gj];rw[ix]at D;rw[hZ];apply b5;intro c;have e:(B[i].2.1).cps.toList=(B[j].2.1).cps.toList:=n3 (α:=Nat) c D;apply ne;generalize B[i].2.1=x at *;generalize B[j].2.1=y at *;obtain⟨x⟩:=x;obtain⟨y⟩:=y;have e':x=y:=by simpa using e
    rw[e']
   .rintro⟨⟨⟩,l⟩ s' ⟨rfl,hf,p,zx,q2,q3⟩;dsimp only;have ps:p.size=vs.length:=by rw[zx.size_eq];simp
    refine aa (seqEpoch_at u rfl ?_);refine aa (lc u rfl ?_ (hsz2:=by rw[fK,q3,fK,ps,hh];lia));rw[hf];simp only[jw,et,gG];exact af (fin l p zx q2 q3)
def GV.mono(x:GV h v t)(k:∀b o,h.get? b=Z o->o.cls = .type "tuple"->l.get? b=Z o):GV l v t:=by
 obtain⟨a,o,n,k1,k2,j,e,u,hc,hd⟩:=x;exact⟨a,o,n,k1,k2,j,e,k a o u hc,hc,hd⟩
def QlT{l:Addr}{vs:List Value}{B:List sS}{k:Str}{Q:Value->aH->Prop}(I:s.heap.IsList l vs.toArray)(T:uh s.heap vs B)(M:∀t∈B,t.1=k)(zx:(B.map (·.2.1)).Nodup)(D:vs.length<64)(h:∀p ,p.Perm (ai vs.length).toArray->uN (tW B) p vs.length->Q (.ref (s.heap.objs.size+1)) { s with heap:=sortedAll s.heap vs (p.toList.map λi=>vs.getD i fj).toArray }) :
  aE (model prog w) A (call (.builtin "sorted") [.ref l]) Q E s:=by
 refine ga nO mw my (mz _) ?_;refine aa (af ?_);refine aa (collect_list I ?_);refine aa (gU ?_);have j:((s.heap.push (c6 "list" #[] 0)).update s.heap.objs.size (cT (·++vs.toArray))).objs.size=s.heap.objs.size+1:=by
  rw[Heap.size_update,size_push']
 have L:(((s.heap.push (c6 "list" #[] 0)).update s.heap.objs.size (cT (·++vs.toArray))).push (c6 "list" vs.toArray 0)).get? (s.heap.objs.size+1)=Z (c6 "list" vs.toArray 0):=by
  rw[<-j];exact ar _ rfl
 have keep:∀b o,s.heap.get? b=Z o->(((s.heap.push (c6 "list" #[] 0)).update s.heap.objs.size (cT (·++vs.toArray))).push (c6 "list" vs.toArray 0)).get? b=Z o:=λb o q=>by
  have u:b<s.heap.objs.size:=aC q;exact ae _ (by rw[Heap.get?_update_ne _ _ _ _ (aM u)];exact ae _ q)
 rw[j];refine aa (b6 (bS kB ⟨_,L,rfl⟩ jZ (Qgk L (λzy k=>⟨T.1,λi H=>?_⟩) M zx D λp J zw=>⟨_,rfl,?_⟩) (kC _)))
 .refine(T.2 i H).mono λb o q _=>k b o (aM (bQ (aC q))) (keep b o q)
 .exact af ⟨_,rfl,h p J zw⟩
end
noncomputable def rf(t:sS):PV := .tup [.str t.1,.str t.2.1,.str t.2.2]
def yQ:PV->Option sS
 |.tup [.str a,.str b,.str c]=>Z (a,b,c)
 |_=>O
def O9:List PV->Option (List sS)
 |[]=>Z []
 |x::xs=>(yQ x).bind λt=>(O9 xs).bind λj=>Z (t::j)
def yR(h:yQ x=Z t):x=rf t:=by
 delta yQ at h;split at h
 .cases h;rfl
 .cases h
def QlO:∀{xs:List PV}{l:List sS},O9 xs=Z l->xs=l.map rf:=by
 intro xs;induction xs with
 |nil =>
  intro _ h;cases h;rfl
 |cons x xs j =>
  intro l h;obtain⟨t,h1,h⟩:=Qc h;obtain⟨u,h2,h⟩:=Qc h;cases h;rw[aT,yR h1,j h2]
def QlN:∀l,O9 (l.map rf)=Z l:=by
 intro l;induction l with
 |nil =>
  exact rfl
 |cons t l j =>
  show(yQ (rf t)).bind _=_;rw[show yQ (rf t)=Z t from rfl,j];rfl
def tLe(a b:sS):Bool:=rN a.2.1 b.2.1
def BN(l:List sS):List sS:=l.mergeSort tLe
def Tn l:(BN l).Perm l:=jd _ _
def Qid l:(BN l).Pairwise (λa b=>tLe a b=Y):=iE (λa b c h1 h2=>Vs a.2.1 b.2.1 c.2.1 h1 h2) (λa b=>QfB a.2.1 b.2.1) l
abbrev yS(l:List sS):Prop:=(∀t∈l,t.1=(l.getD 0 rn).1)/\(l.map (·.2.1)).Nodup
def yT{l:List sS}(B:(l.map (·.2.1)).Nodup)(D:a∈l)(I:b∈l)(e:a.2.1=b.2.1):a=b:=by
 induction l with
 |nil=>cases D
 |cons t l j =>
  rw[aT,bL]at B;rcases ap.mp D with h1 | h1<;>rcases ap.mp I with h2 | h2
  .rw[h1,h2]
  .subst h1;exact absurd (aO.mpr ⟨b,h2,e.symm⟩) B.1
  .subst h2;exact absurd (aO.mpr ⟨a,h1,e⟩) B.1
  .exact j B.2 h1 h2
def yU(D:(l.map (·.2.1)).Nodup)(B:us.Perm l)(hs:us.Pairwise (λa b=>tLe a b=Y)):us=BN l :=
 fT (λx y j hy h1 h2=>yT D (B.mem_iff.mp j) ((Tn l).mem_iff.mp hy) (Vt h1 h2)) hs (Qid l) (B.trans (Tn l).symm)
def To:List PV->Option (List PV)
 | [.lst xs]=>match O9 xs with
  |some t=>if t.length<64 then (if yS t then Z ((BN t).map rf) else O) else O
  |none=>O
 |_=>O
section
def DC(I:Inv X l zx H s)(hs:Same F H)(r:o3 X.K F (rf t) v)(q:pq v u):GV s.heap u t:=by
 obtain⟨a,vs,rfl,k2,B⟩:=r;cases q;have e3 :=XY (ns:=[t.1,t.2.1,t.2.2]) B;subst e3;obtain⟨D,j,⟨o,o1,o2,n,E⟩,_⟩:=I.tuple (hs.seqT k2);cases j with
 | cons J j=>cases j with
  | cons L j=>cases j with
   |cons M j =>
    cases j;obtain⟨t1,rfl⟩:=J;obtain⟨zy,rfl⟩:=L;obtain⟨T,rfl⟩:=M;exact⟨a,o,n,t1,zy,T,rfl,o1,o2,by rw[E]⟩
def yV(I:Inv X B zy H s)(hs:Same F H):∀{l:List sS}{vs:List V}{us:List Value},oP X.K F (l.map rf) vs->o4 vs us->uh s.heap us l:=by
 intro l;induction l with
 |nil =>
  intro vs us r q;subst r;cases q;exact⟨rfl,λi j=>by simp at j⟩
 |cons t l u =>
  intro vs us r q;obtain⟨v,T,rfl,E,J⟩:=r;cases q with
  |cons L M =>
   have D:=u J M;refine⟨by simp[D.1],λi j=>?_⟩;cases i with
   |zero=>exact DC I hs E L
   |succ i=>exact D.2 i (by simpa using j)
def DD{K:ab}:∀{l:List sS}{vs:List V},oP K F (l.map rf) vs->vs.length=l.length/\∀i,i<l.length->o3 K F (rf (l.getD i rn)) (vs.getD i .non):=by
 intro l;induction l with
 |nil =>
  intro vs r;subst r;exact⟨rfl,λi j=>by simp at j⟩
 |cons t l u =>
  intro vs r;obtain⟨v,H,rfl,D,E⟩:=r;have B:=u E;refine⟨by simp[B.1],λi j=>?_⟩;cases i with
  |zero=>exact D
  |succ i=>exact B.2 i (by simpa using j)
def Qma{K:ab}{l:List sS}{vs:List V}(r:∀i,i<l.length->o3 K F (rf (l.getD i rn)) (vs.getD i .non)):∀{p:List Nat},(∀i∈p,i<l.length)->oP K F ((p.map λi=>l.getD i rn).map rf) (p.map λi=>vs.getD i .non):=by
 intro p;induction p with
 |nil =>
  intro _;grind[oP]
 |cons i p t =>
  intro h;exact⟨_,_,rfl,r i (h i a7),t λj u=>h j (ay _ u)⟩
theorem Qfs(r:o4 vs us):∀{p:List Nat},(∀i∈p,i<us.length)->o4 (p.map λi=>vs.getD i .non) (p.map λi=>us.getD i .none)
 |[],_=>.nil
 |i::p,h=>by
  refine .cons ?_ (Qfs r λj t=>h j (ay _ t));have l:=h i a7;clear h;induction r generalizing i with
  |nil=>simp at l
  | cons q r u=>cases i with
   |zero=>exact q
   |succ i=>exact u i (by simpa using l)
set_option tactic.hygienic true in
def ui:MY X (.builtin "sorted") To:=by
 intro zw s σ H vs us Q I rs h;obtain⟨F,ps,r,h1,h2,h3,w⟩:=h;delta To at h3;split at h3
 .obtain⟨v,t,rfl,h2,ht⟩:=h2;subst ht;obtain⟨a,ws,rfl,k2,zy⟩:=h2;obtain⟨u,rfl,ru⟩:=Zx rs;cases ru;obtain⟨B,rv,pl,_⟩:=I.list (h1.seq k2);split at h3
  .rename_i l E;obtain⟨c,h3⟩:=XB h3;obtain⟨J,h3⟩:=XB h3;cases h3;have e2:=QlO E;subst e2;have T:=yV I h1 zy rv;have R:=DD zy;refine QlT pl.isList T J.1 J.2 (by rw[T.1];exact c) λp L q2=>?_;rw[T.1]at L q2;have pp :=by
    have:=Array.perm_iff_toList_perm.mp L;simpa using this
   have pm:∀i∈p.toList,i<l.length:=λi D=>aR.mp (pp.mem_iff.mp D);have ps:p.size=l.length:=by rw[L.size_eq];simp
   have eo:(p.toList.map λi=>l.getD i rn)=BN l:=by
    refine yU J.2 ?_ ?_
    .have e:=pp.map λi=>l.getD i rn;have e':(ai l.length).map (λi=>l.getD i rn)=l:=by
      apply fM
      .simp
      .intro i h1 h2;simp[ h2]
     rw[e']at e;exact e
    .rw[fD,eF];intro i j D hj M;have q:=q2 i j (cb M) (by rw[<-ps];simpa using hj);have gi:p.getD i 0=p.toList[i]:=by
      have :=by simpa using D
      simp[ this]
     have gj:p.getD j 0=p.toList[j]:=by
      have :=by simpa using hj
      simp[ this]
     rw[gi,gj]at q;delta tLe rN;delta tW M7 at q;rw[q];rfl
   obtain⟨k,he⟩:=sortedAll_at s.heap B (p.toList.map λi=>B.getD i fj).toArray;have zx :=I.hok.fresh (c8 _);refine⟨.ref (s.heap.objs.size+1),pf H (s.heap.objs.size+1) (.lst (p.toList.map λi=>ws.getD i .non)),I.laid (λb o q=>sortedAll_old q) (c8 _) ⟨?_,(p.toList.map λi=>B.getD i fj),k,Qfs rv (λi D=>by rw[T.1];exact pm i D),?_⟩,rfl,?_⟩
   .rw[ag,bE,ps];exact cb (fL c (by decide))
   .simpa[c6] using he
   .refine w _ (p.toList.map λi=>ws.getD i .non) _ F (.side h1 zx) zx (h1.free zx) Qf ?_;rw[<-eo];exact Qma R.2 pm
  .cases h3
 .cases h3
end
section
def Qgq(B:s.heap.get? l=Z o)(hc:o.cls = .type "tuple")(hd:o.data = .seq vs.toArray n)(hz:vs.length<64)(h:Q vs { s with heap:=(s.heap.push (c6 "list" #[] 0)).update s.heap.objs.size (cT (·++vs.toArray)) }):aE (model prog w) A (collect (.ref l)) Q E s:=by
 refine aa (gE (cG entry_proto_collect' ?_));refine aa (gU (af ⟨ke _ (by decide+kernel),cG entry_list_iadd' ?_⟩));show aE _ _ (fP (.ref s.heap.objs.size) (.ref l) (.ref s.heap.objs.size)) _ _ { s with heap:=s.heap.push (c6 "list" #[] 0) };have q:(s.heap.push (c6 "list" #[] 0)).get? l=Z o:=ae _ B;have z:(s.heap.push (c6 "list" #[] 0)).get? s.heap.objs.size=Z (c6 "list" #[] 0):=ar _ rfl;refine aa (i8 ⟨o,q,hc⟩ ?_);rw[aw (by simp)];refine aa (listItems_at q hd (aa (listItems_at z rfl ?_)));refine aa (lc z rfl (af ?_) (b9 _) (by simp;rw[hh];lia));refine aa (lN (get?_update_seq z _) ?_);exact af (by simpa using h)
def Qhr(M:s.heap.get? l=Z o)(hc:o.cls = .type "tuple")(hd:o.data = .seq vs.toArray n)(I:kK vs ss)(D:vs.length<64)(h:∀out B,kK out.toList B->B.Perm ss->sortedS B=Y->Q (.ref (s.heap.objs.size+1)) { s with heap:=sortedAll s.heap vs out }) :
  aE (model prog w) A (call (.builtin "sorted") [.ref l]) Q E s:=by
 refine ga nO mw my (mz _) ?_;refine aa (af (aa (Qgq M hc hd D (aa (gU ?_)))));have j:((s.heap.push (c6 "list" #[] 0)).update s.heap.objs.size (cT (·++vs.toArray))).objs.size=s.heap.objs.size+1:=by rw[Heap.size_update,size_push']
 have L:(((s.heap.push (c6 "list" #[] 0)).update s.heap.objs.size (cT (·++vs.toArray))).push (c6 "list" vs.toArray 0)).get? (s.heap.objs.size+1)=Z (c6 "list" vs.toArray 0):=by
  rw[<-j];exact ar _ rfl
 rw[j];refine aa (b6 (bS kB ⟨_,L,rfl⟩ jZ (list_sort_treeK strKind_oneLt L I.keysOf (λt u pb e=>keyKind_strs (by rw[<-e];exact I)) D λH J zx=>⟨_,rfl,af ⟨_,rfl,?_⟩⟩) (kC _)));obtain⟨B,T,zw,zy⟩:=sorted_out_str I J zx;exact h _ B T zw zy
end
def M8:List PV->Option (List PV)
 | [.tup xs]=>match strs? xs with
  |some ss=>if ss.length<64 then Z ((QA ss).map .str) else O
  |none=>O
 |ps=>GH ps
section
set_option tactic.hygienic true in
def uO:MY X (.builtin "sorted") M8:=by
 intro l s M H vs us Q I rs h;obtain⟨F,ps,r,h1,h2,h3,w⟩:=h;delta M8 at h3;split at h3
 .obtain⟨v,t,rfl,h2,zx⟩:=h2;subst zx;obtain⟨a,ws,rfl,k2,T⟩:=h2;obtain⟨u,rfl,zw⟩:=Zx rs;cases zw;obtain⟨B,J,⟨o,o1,o2,n,zy⟩,_⟩:=I.tuple (h1.seqT k2);split at h3
  .rename_i ss D;obtain⟨c,rfl⟩:=Qi h3;have e2:=SG D;subst e2;have e3:=XY T;subst e3;have hl:=J.length;rw[ag]at hl;refine Qhr o1 o2 zy (YL J) (by lia) λout j a1 L a3=>?_;have e4:=M1 L (YZ _ a3);obtain⟨k,he⟩:=sortedAll_at s.heap B out;have E :=I.hok.fresh (c8 _);refine⟨.ref (s.heap.objs.size+1),pf H (s.heap.objs.size+1) (.lst (j.map V.str)),I.laid (λb o q=>sortedAll_old q) (c8 _) ⟨?_,out.toList,k,Vq a1,?_⟩,rfl,?_⟩
   .rw[ag,L.length_eq];exact cb (fL c (by decide))
   .simpa[c6] using he
   .rw[<-e4]at w;exact w _ (j.map V.str) _ F (.side h1 E) E (h1.free E) Qf (YM j)
  .cases h3
 .exact sX l s M H vs us Q I rs ⟨F,_,r,h1,h2,h3,w⟩
end
end L2.PM
namespace L2.PM
open PySem PySem.Spec PyProof.Rows
section
def yW(l:EM X ns k mk)(he:EM X ms e m)(h1:ah [k,e] X.env=(U,eval k X.env)::ah [e] X.env:=by rfl)(h2:ah [e] X.env=(U,eval e X.env)::ah [] X.env:=by rfl) :
  PA X [k,e] (NK (tM X.K ns mk) (NK (tM X.K ms m) Ig)):=YD l (YD he Ce h2) h1
def DE(hx:PE X (.Name x p2) (qN i))(ps:PS X (.Expr (.Call (.Attribute (.Name x p2) "insert" l) [k,e] [] I) L) (MN (MV X.K "list" QkO (qN i) (NK (tM X.K ns mk) (NK (tM X.K ms m) Ig))))) :
  SM X (.Expr (.Call (.Attribute (.Name x p2) "insert" l) [k,e] [] I) L) (uH ms i mk m):=PS.imp ps λD σ H zz=>by
 obtain⟨B,zx,F,T,o,S,e,ok⟩:=zz;delta uH at e;split at e
 .rename_i xs zw;obtain⟨j0,e0,e'⟩:=Qc e;obtain⟨r,e1,e2⟩:=Qc e';cases j0 with
  |int j =>
   have e3 :=e2;obtain⟨⟨c0,c1,c2,c⟩,rfl⟩:=Qi e3;obtain⟨a,vs,h1,h2,_⟩:=S.ow i xs zw;obtain⟨F1,zy,x1,er⟩:=S.see ns;refine⟨.ref a,h1,Sz (.of h2),F1,T,.int j,zy.sub,er,e0,λv0 H' F' g q0=>?_⟩;obtain⟨F2,S2,q2⟩:=S.val zy g q0;subst q0;obtain⟨F3,S3,x3,u⟩:=S2.see ms;refine⟨F3,T,r,S3.sub,u,e1,λv H2 F4 g2 q=>?_⟩;obtain⟨F5,S5,q5⟩:=S2.val S3 g2 q;have t:=Sx zw c;obtain⟨a2,E,k1,k2,J,_⟩:=S5.ow i xs t;rw[h1]at k1;cases k1;have M :=J.length;refine⟨a,E,v,j,rfl,rfl,k2,c0,by grind,?_,by grind,?_⟩
   .rw[M];exact hL c2 (by decide)
   .exact ok _ _ F5 (S5.write t h1 ((J.take _).append (.cons q5 (J.drop _))))
  |_=>cases e2
 .cases e
end
end L2.PM
namespace L2
open PySem PySem.Spec PySem.Calls PyProof.Rows PySem.W PySem.Builtin PySem.Builtin.ObjectAttr PySem.Builtin.Getset_descriptor
def OfC(x D:Addr)(h:Heap):Prop:=∃j,h.get? x=Z j/\j.cls = .ref D
section
def OfC.type(I:OfC x D h):Looks M h (typeOf (.ref x)) (.ref D):=by
 obtain⟨j,h1,h2⟩:=I;exact h2▸(Looks.ld h1).andThen .now
end
end L2
namespace L2
open PySem PySem.Spec PySem.Calls PyProof.Rows PySem.W
structure Pa (B:Heap) (l:List Env) (e:Addr) (cls:Value) (d:Option Addr) (fl:Value) (h:Heap):Prop where
 stay:B.StaysIn h
 new:B.get? e=O
 fun_:h.FunFrames B l
 at_:∃oe vs T oT ts,h.get? e=Z oe/\oe.cls=cls/\oe.dict=d/\oe.data = .fields vs/\vs[1]?=Z (.ref T)/\B.get? T=O/\T≠e/\h.get? T=Z oT/\oT.data = .fields ts/\ts[3]?=Z fl
section
def Up(B:Heap)(l:List Env)(L e:Addr)(cls:Value)(d:Option Addr)(h:Heap):Prop :=
 (∃j vs,h.get? e=Z j/\j.cls=cls/\j.dict=d/\j.data = .fields vs/\vs[1]?=Z .none/\B.StaysIn h/\B.get? e=O/\h.FunFrames B l)\/Pa B l e cls d .none h\/Pa B l e cls d (cD L) h
end
end L2
namespace L2.PM
open PySem PySem.Spec PyProof.Rows
def yX{α:Type}[Decidable c]{x:Option α}{y:α}(h:(if c then x else O)=Z y):c/\x=Z y:=by
 by_cases hc:c
 .rw[aw hc]at h;exact⟨hc,h⟩
 .rw[aN hc]at h;cases h
def Wx(F H:Hp)(E:XK)(C:Addr):Prop:=∀l j,pd F H l j->E (.ref C) O j
abbrev MStR:=oN->Option (tV ⊕ Addr)
section
def Wx.from{K:ab}(w:Wx l B E C)(D:SR K B l I zy H T)(gr:pd I H L M):Wx L M E C:=λ_ _ j=>w _ _ (D.grow (gr.trans j)).gr
end
end L2.PM
namespace L2
open PySem PySem.Spec PySem.Calls PyProof.Rows PySem.W
end L2
namespace L2.PM
open PySem PySem.Spec PyProof.Rows
abbrev MStQ:=oN->Option (tV ⊕ (oN×Addr))
structure uj (K:ab) (x qual:Str) (st:Stmt) (f:Addr) (fd:eT):Prop where
 ex:∃(T:Addr)(oc:Value)(od:Option Addr)(kV doc pm:Value)(an:Option Addr)(cdv ct:Value)(osl:Array (Option Value))(d:Value),
  fd=cQ x qual (Qz st) (Qn st) (Qe st) (.ref T) kV doc pm an cdv ct/\K.lookup f=Z ⟨oc,od,.func fd,osl⟩/\fI K cdv qual=Y /\
  ∃(tc:Value)(td:Option Addr)(tn:Nat)(ts:Array (Option Value)),K.lookup T=Z ⟨tc,td,.seq #[d] tn,ts⟩
 kp:b7 K (.ref f)=Y
def DF{K:ab}{st:Stmt}{kV doc D B ct:Value}(l:K.lookup f=Z ⟨L,M,.func (cQ x qual (Qz st) (Qn st) (Qe st) (.ref T) kV doc D an B ct),I⟩)(c:fI K B qual=Y)(k:b7 K (.ref f)=Y)(t:K.lookup T=Z ⟨tc,zx,.seq #[d] zw,zy⟩):uj K x qual st f (cQ x qual (Qz st) (Qn st) (Qe st) (.ref T) kV doc D an B ct) :=
 ⟨⟨T,L,M,kV,doc,D,an,B,ct,I,d,rfl,l,c,tc,zx,zw,zy,t⟩,k⟩
section
def uj.ok{P:bh}{K:ab}{st:Stmt}(F:uj K x qual st f fd)(S:pB N ps (Qe st))(len:∀vs H Q E,sp vs H Q E->vs.length=ps.length)(B:∀l A outer s H vs Q E,o8 k (A.deeper (fR qual (Qe st) s.heap.objs.size f l))->sp vs H Q E ->
   ∃t,PSs (qI qh P w K mg base N qual (Qe st) f l A outer s H E).nox (Qn st) t/\t { nx:=λ_ D=>Q .non D,rt:=Q } (Xj N vs) H):FnOk P w K mg base qh (k+1) f fd ps sp:=by
 obtain⟨T,J,L,kV,doc,M,an,l,ct,I,d,rfl,lk,j,_⟩:=F.ex;refine wJ lk j S len λA outer s H vs Q E hr u=>?_;obtain⟨t,h,q⟩:=B l A outer s H vs Q E hr u;exact⟨t,h.nox,q⟩
def uj.binds{K:ab}{st:Stmt}(F:uj K x qual st f fd)(h:∀dV kV doc B an l ct d us,us.length=ps.length->∃k ,gg (cQ x qual (Qz st) (Qn st) (Qe st) dV kV doc B an l ct) ⟨us,[]⟩=seqItems? dV >>= k/\k (Z #[d])=pure (ps.zip us)):ZJ K fd ps []:=by
 obtain⟨T,E,H,kV,doc,B,an,l,ct,u,d,rfl,lk,D,tc,I,J,L,t⟩:=F.ex;intro s us X j;rw[bB]at j |-;obtain⟨k,e1,e2⟩:=h (.ref T) kV doc B an l ct d us j;exact jO rfl (X _ _ t) rfl e1 e2
end
section
def Pb{K:ab}{P:Hp->Hp->Addr->τ->Prop}{st:Stmt}(I:uj K x qual st f fd)(L:pB N ps (Qe st))(M:ps.length=n)(B:∀l A outer s H E,o8 k (A.deeper (fR qual (Qe st) s.heap.objs.size f l)) ->
   GO (qI qh zx w K mg base N qual (Qe st) f l A outer s H E).nox P 0 (Qn st) m):FnOk zx w K mg base qh (k+1) f fd ps (Dp K P n (qA N.length n m)):=by
 refine I.ok L (λvs H Q E h=>by rw[h.1,M]) λl A outer s H vs Q E hr h=>?_;refine⟨_,B l A outer s H E hr,?_⟩;obtain⟨J,F,G,a,t,us,qs,t',rfl,h1,h2,h3,zw,D,j,zy⟩:=h;delta qA at j;have hq:qs.length+1=n:=by rw[<-D.length];exact J
 rw[aw hq]at j;obtain⟨o,e1,e2⟩:=Qc j;have T:SR K H F F (Xj N (.ref a::us)) H (Zp N.length (.opq a::qs)):=Ot h1 (.cons (by rfl) D);have u:∀b o,tF (r8 H G) G b=Z o->H b=Z o:=λb o e=>by
  rcases OP e with z|⟨_,z⟩
  .exact(yk z).1
  .exact h2 b o z
 refine⟨r8 H G,F,F,G,a,_,t,o,⟨⟨T.sub,u,T.f0,λb o e=>.inl e,T.len,T.fz,λi xs e=>?_,T.dj⟩,?_,zw,λb o e=>?_,h3⟩,e1,?_⟩
 .obtain⟨c,vs,k1,k2,k3,k4,k5⟩:=T.ow i xs e;rw[k5]at k2;cases k2
 .rfl
 .delta r8;rw[e]
 .cases o with
  |nx γ t2 =>
   cases e2;intro av H' F' E' S;refine zy H' F' E' ⟨S.sr.f0,S.sr.sub,λb o e=>S.sr.base b o (yg (S.db b o e) e),λb o e n=>S.sr.base b o (JS b o (QkZ e n)),λb o e=>?_,λb o e=>S7 (S.db b o e),S.df⟩ S.own;rcases S.sr.fb b o e with z | z
   .exact .inl z
   .exact .inr ((S7 (Xf z).1).symm)
  |_=>cases e2
end
end L2.PM
namespace L2.PM
open PySem PySem.Spec PyProof.Rows PySem.Builtin PySem.Builtin.Str
section
def M9:PV->List PV->Option PV
 |.str x,[.str y]=>Z (.bl (gH x y))
 |_,_=>O
def Qmo:wM X "str.startswith" (BJ X.K M9):=by
 intro l s L H x xs v us Q I B rs h;obtain⟨F,p,ps,r,h1,h2,h3,j,w⟩:=h;delta M9 at j;split at j
 .cases j;subst h2;obtain⟨t,rfl⟩:=B;obtain⟨M,zy,rfl,D,E⟩:=h3;subst E;subst D;obtain⟨u,rfl,J⟩:=o4.one rs;obtain⟨T,rfl⟩:=J;exact SC.startswith ⟨.bl _,H,I,rfl,w.here h1 (Za _)⟩
 .cases j
def vK(h:EM X ms o m)(T:AM X ns (e::L) zx)(D:bY o "startswith" X.env (eval o X.env)=eval o X.env:=by rfl)(M:((bA l (ah (e::L) X.env)).all (λx => !x.1)&&(dF l (cn [] X.env)).all (λx=>x.1.isSome)
   && decide ((e::L).length+([]:List dD).length+(if ([]:List dD).isEmpty then 0 else 1)<30))=Y:=by rfl)(I:(zy.endLine==l.line)=Y:=by rfl)(hs:ah (e::L) X.env=(U,eval e X.env)::ah L X.env:=by rfl)(B:(bA l (ah L X.env)).any (·.1)=U:=by rfl) :
  EM X (ms++ns) (.Call (.Attribute o "startswith" zy) (e::L) [] l) (rO "str" M9 m zx) :=
 Oz h T (Cq fm PySem.F.slot_str_startswith PySem.F.type_str_startswith Qmo h T D M I hs B)
end
end L2.PM
namespace L2.PM
open PySem PySem.Spec PyProof.Rows
def vL:List PV->Option PV
 |[.int a]=>if a.natAbs<1000000 then Z (.str (jj a)) else O
 |_=>O
def Qmv(h:n<1000000):n.log2<1920:=by
 rcases mX n with rfl | j
 .decide
 .refine(md (by lia)).2 (aF h ?_);exact aY (show 1000000<=2^20 by decide) (dG (by decide) (by decide))
def Ki:BH X (.type "str") vL:=by
 intro j s D H vs us Q I rs h;obtain⟨F,ps,r,h1,h2,h3,w⟩:=h;delta vL at h3;split at h3
 .obtain⟨c,h3⟩:=yX h3;cases h3;obtain⟨E,J,rfl,l,t⟩:=h2;subst t;subst l;obtain⟨u,rfl,B⟩:=o4.one rs;obtain⟨L,rfl⟩:=B;exact P.str_of_int (Qmv c) ⟨.str _,H,I.tok _,⟨_,rfl⟩,w.here h1 (by rfl)⟩
 .cases h3
theorem lb1{α:Type}{P:List α->Prop}(h:∀a,P [a]):∀us,us.length=1->P us
 |[a],_=>h a
def Pc{α:Type}{P:List α->Prop}(h:∀a b,P [a,b]):∀us,us.length=2->P us:=by
 intro us l;cases us with
 |nil=>cases l
 |cons a us=>exact lb1 (P:=λus=>P (a::us)) (h a) us (iM l)
def lb3{α:Type}{P:List α->Prop}(h:∀a b c,P [a,b,c]):∀us,us.length=3->P us:=by
 intro us l;cases us with
 |nil=>cases l
 |cons a us=>exact Pc (P:=λus=>P (a::us)) (h a) us (iM l)
def lb4{α:Type}{P:List α->Prop}(h:∀a b c d,P [a,b,c,d]):∀us,us.length=4->P us:=by
 intro us l;cases us with
 |nil=>cases l
 |cons a us=>exact lb3 (P:=λus=>P (a::us)) (h a) us (iM l)
section
def Pd(h:EM X l e m)(q:l=ms)(D:X.N.Nodup)(I:X.N[i]?=Z x)(L:BC X.env.scope x)(hs:c7 e (Z (.Name x p2)) B.line X.env=pure U)(hf:X.fn x=Y\/X.env.scope.names.lookup x=Z .local):SM X (.Assign [.Name x p2] e B) (oW ms i m):=q▸Jf D I L h hs hf
def GW{m:oN->Option (List PV)}(h:EO X l e m)(q:l=ms)(D:X.N.Nodup)(I:X.N[i]?=Z x)(L:BC X.env.scope x)(hs:c7 e (Z (.Name x p2)) B.line X.env=pure U)(hf:X.fn x=Y\/X.env.scope.names.lookup x=Z .local):SM X (.Assign [.Name x p2] e B) (Qs ms i m):=q▸CP D I L h hs hf
def Pe(h:IM X l B iter D)(I:GM X T B g)(L:ua X body sb)(q:l=ms)(M:jJ (model X.prog X.w) X.A X.env X.xe)(hc:X.calm=Y)(hs:∀x,cC iter X.env x=pure x):SM X (.For B iter body [] zy) (qv ms D g sb):=q▸Ji M hc h I L hs
def Pf(h:EM X l e m)(q:l=ms)(hs:c7 e O B.line X.env=pure U):SM X (.Expr e B) (vJ ms m):=q▸Ke h hs
def Pg{B l:Pos}(h:PE X (.Name x p2) (qN i))(he:EM X M e m)(q:M=ms)(T:bY (.Name x p2) "append" X.env (eval (.Name x p2) X.env)=eval (.Name x p2) X.env)(L:((bA l (ah [e] X.env)).all (λx => !x.1)&&(dF l (cn [] X.env)).all (λx=>x.1.isSome)
      && decide ([e].length+([]:List dD).length+(if ([]:List dD).isEmpty then 0 else 1)<30))=Y)(I:(B.endLine==l.line)=Y)(hs:ah [e] X.env=(U,eval e X.env)::ah [] X.env)(D:(bA l (ah [] X.env)).any (·.1)=U)(hw:c7 (.Call (.Attribute (.Name x p2) "append" B) [e] [] l) O zy.line X.env=pure U):SM X (.Expr (.Call (.Attribute (.Name x p2) "append" B) [e] [] l) zy) (qo ms i m):=q▸Jh h he (MO (Cq f9 PySem.F.slot_list_append PySem.F.type_list_append QfG h (QiV he hs) T L I hs D) hw)
def VW{B l:Pos}(h:PE X (.Name x p2) (qN i))(he:EM X M e m)(q:M=ms)(T:bY (.Name x p2) "extend" X.env (eval (.Name x p2) X.env)=eval (.Name x p2) X.env)(L:((bA l (ah [e] X.env)).all (λx => !x.1)&&(dF l (cn [] X.env)).all (λx=>x.1.isSome)
      && decide ([e].length+([]:List dD).length+(if ([]:List dD).isEmpty then 0 else 1)<30))=Y)(I:(B.endLine==l.line)=Y)(hs:ah [e] X.env=(U,eval e X.env)::ah [] X.env)(D:(bA l (ah [] X.env)).any (·.1)=U)(hw:c7 (.Call (.Attribute (.Name x p2) "extend" B) [e] [] l) O zy.line X.env=pure U):SM X (.Expr (.Call (.Attribute (.Name x p2) "extend" B) [e] [] l) zy) (yM ms i m):=q▸Kg h he (MO (Cq f9 PySem.F.slot_list_extend PySem.F.type_list_extend Kf h (QiV he hs) T L I hs D) hw)
def VX{B l:Pos}(h:PE X (.Name x p2) (qN i))(zw:EM X ns a zy)(he:EM X M e m)(q:M=ms)(hb:bY (.Name x p2) "insert" X.env (eval (.Name x p2) X.env)=eval (.Name x p2) X.env)(L:((bA l (ah [a,e] X.env)).all (λx => !x.1)&&(dF l (cn [] X.env)).all (λx=>x.1.isSome)
      && decide ([a,e].length+([]:List dD).length+(if ([]:List dD).isEmpty then 0 else 1)<30))=Y)(I:(B.endLine==l.line)=Y)(hs:ah [a,e] X.env=(U,eval a X.env)::ah [e] X.env)(zx:ah [e] X.env=(U,eval e X.env)::ah [] X.env)(D:(bA l (ah [e] X.env)).any (·.1)=U)(hw:c7 (.Call (.Attribute (.Name x p2) "insert" B) [a,e] [] l) O T.line X.env=pure U):SM X (.Expr (.Call (.Attribute (.Name x p2) "insert" B) [a,e] [] l) T) (uH ms i zy m):=q▸DE h (MO (Cq f9 kQ PySem.F.type_list_insert Qmn h (yW zw he hs zx) hb L I hs D) hw)
def VY{l:oN->Option (List PV)}{i:Str}{j:Nat}(h:AM X ms B l):AM X ms (.Constant (.str i) j p::B) (Qa (mC (.str i)) l):=sh (ms:=[]) wY h
def VZ{l:oN->Option (List PV)}{i:Int}{j:Nat}(h:AM X ms B l):AM X ms (.Constant (.int i) j p::B) (Qa (mC (.int i)) l):=sh (ms:=[]) wX h
def V0:Expr->List Str
 |.Name x _=>[x]
 |.Tuple j _ _=>j.flatMap fun | .Name x _=>[x] | _=>[]
 |_=>[]
def EU(X:Cx)(n:Nat)(e:Expr)(m:pI):Prop:=EM X (ai n) e m
def IU(X:Cx)(n:Nat)(l:List Expr)(t:oN->Option Bool):Prop:=Jj X (ai n) l t
def Qlo{K:ab}{F:Hp}{l:St}{B:oN}{n:Nat}(h:qf K F l B (ai n))(q:(ls.all λi=>decide (i<n))=Y):qf K F l B ls:=λi j=>h i (aR.mpr (bD (aX.mp q i j)))
def kEU{n:Nat}(h:EM X ls e m)(q:(ls.all λi=>decide (i<n))=Y):EU X n e m:=PE.imp h λt H Q j=>by obtain⟨F,l,r,h1,h2,h3,w⟩:=j;exact⟨F,l,r,h1,Qlo h2 q,h3,w⟩
def kIU{n:Nat}(h:Jj X ls l t)(q:(ls.all λi=>decide (i<n))=Y):IU X n l t:=λj s u H Q I B=>by obtain⟨F,D,r,h1,h2,h3,w⟩:=B;exact h j s u H Q I ⟨F,D,r,h1,Qlo h2 q,h3,w⟩
def GU(X:Cx)(n:Nat)(l:Expr)(g:PV->oN->Option oN):Prop:=GM X (ai n) l g
def kGU{n:Nat}(h:GM X l B g)(q:l=ai n):GU X n B g:=by subst q;exact h
def Ph{D:List Str}(hn:V0 zx++(B.map λi=>X.N.getD i "")=D)(ck:(OB X.N X.env.scope scope D nt B&&decide D.Nodup)=Y)(hi:IM X ms zx iter mi)(hg:D.Nodup->∀l I C s H L,GU (YY X l D (Qx X.env.scope scope) I C s H L) nt zx g)(ht:∀l I C s H L,IU (YY X l D (Qx X.env.scope scope) I C s H L) D.length T t)(he:∀l I C s H L,EU (YY X l D (Qx X.env.scope scope) I C s H L) D.length zw m)(zy:tD g)(hc:X.calm=Y)(hs:∀x,cC iter X.env x=pure x)(M:relabel scope X.env=Qx X.env.scope scope):EO X (ms++B) (.ListComp zw [⟨zx,iter,T,0⟩] scope av) (Qo mi nt B g t m):=have z:=(aQ ..).mp ck;CU hc (GI rfl rfl z.1) (λi h=>aR.mp h) zy hi (hg (bD z.2)) ht he hs M
def GX{D:List Str}(hn:V0 zy++(B.map λi=>X.N.getD i "")=D)(ck:(OB X.N X.env.scope scope D nt B&&decide D.Nodup)=Y)(hi:IM X ms zy iter mi)(hg:D.Nodup->∀l I C s H L,GU (YY X l D (Qx X.env.scope scope) I C s H L) nt zy g)(ht:∀l I C s H L,IU (YY X l D (Qx X.env.scope scope) I C s H L) D.length M t)(he:∀l I C s H L,EU (YY X l D (Qx X.env.scope scope) I C s H L) D.length zx m)(av:tD g)(hc:X.calm=Y)(hs:∀x,cC iter X.env x=pure x)(T:relabel scope X.env=Qx X.env.scope scope)(hN:X.N.Nodup)(az:X.N[i]?=Z y)(hy:X.env.scope.names.lookup y=Z .local)(aq:c7 (.ListComp zx [⟨zy,iter,M,0⟩] scope aj) (Z (.Name y py)) zw.line X.env=pure Y)(q:ms++B=ak):SM X (.Assign [.Name y py] (.ListComp zx [⟨zy,iter,M,0⟩] scope aj) zw) (Qs ak i (Qo mi nt B g t m)):=have z:=(aQ ..).mp ck;q▸Qjg hN az hy hc (GI rfl rfl z.1) (λi h=>aR.mp h) av hi (hg (bD z.2)) ht he aq hs T
def V1{n k L:Nat}{g:List PV->Option PV}{M:oN->Option (List PV)}(c:SH X.prog X.w X.K X.mg X.base k x n g)(zx:AM X ms (e::l) M)(T:∀ps r,g ps=Z r->ps.length=n)(hr:o8 L X.A)(zw:k<=L)(zy:Gl X x)(B:(x==("__debug__":Str))=U)(he:ah (e::l) X.env=(U,eval e X.env)::ah l X.env)(D:(bA I (ah l X.env)).any (·.1)=U):EM X ms (.Call (.Name x p) (e::l) [] I) (Qb g M):=Jx c T (hr.mono zw) zy zx B he D
def Pj{n k I j:Nat}{g:List PV->Option PV}(c:uJ X.prog X.w X.K X.mg X.base k x n j g)(L:AM X ms [e] (Qa m oK))(M:∀ps r,g ps=Z r->ps.length=n)(hr:o8 I X.A)(zy:k<=I)(T:Gl X x)(l:(x==("__debug__":Str))=U)(he:ah [e] X.env=(U,eval e X.env)::ah [] X.env)(B:(bA D (ah [] X.env)).any (·.1)=U):EM X ms (.Call (.Name x p) [e] [] D) (Qb g (Qa m (Qa (mN j) oK))):=Dj c M (hr.mono zy) T L l he B
def sZ(s:gk):List Str:=(s.names.filter λx=>x.2==.local||x.2==.cell).map (·.1)
def fnK{P:bh}{w:cg}{K:ab}{mg:Str->Option Value}{base:Heap}{x qual:Str}{st:Stmt}{f:Addr}{fd:eT}{ps:List Str}{k n L:Nat}{m:pW}{body:List Stmt}(I:sO K x qual st f fd)(M:(sZ (Qe st)).length=L)(zy:ps.length=n)(D:pB (sZ (Qe st)) ps (Qe st))(T:Qn st=body)(l:(sZ (Qe st)).Nodup->∀(B:Value) (A:dI) (outer:List Env) (s:aH) (H:Hp) (E:XK),o8 k (A.deeper (fR qual (Qe st) s.heap.objs.size f B))->ua (qI qh P w K mg base (sZ (Qe st)) qual (Qe st) f B A outer s H E).nox body m):FnOk P w K mg base qh (k+1) f fd ps (spM K n (oX L n m)):=by subst T;exact M▸Vm I D zy (l D.nd)
def V2{P:bh}{w:cg}{K:ab}{mg:Str->Option Value}{base:Heap}{x qual:Str}{st:Stmt}{f:Addr}{fd:eT}{j:Int}{ps:List Str}{k n L:Nat}{m:pW}{body:List Stmt}(I:sy K x qual st f fd j)(M:(sZ (Qe st)).length=L)(zy:ps.length=n)(D:pB (sZ (Qe st)) ps (Qe st))(T:Qn st=body)(l:(sZ (Qe st)).Nodup->∀(B:Value) (A:dI) (outer:List Env) (s:aH) (H:Hp) (E:XK),o8 k (A.deeper (fR qual (Qe st) s.heap.objs.size f B))->ua (qI qh P w K mg base (sZ (Qe st)) qual (Qe st) f B A outer s H E).nox body m):FnOk P w K mg base qh (k+1) f fd ps (spM K n (oX L n m)):=by subst T;exact M▸VC I D zy (l D.nd)
end
end L2.PM
namespace HD
open PySem PySem.W PySem.Calls PyProof.Rows L2
def yY(s:Stmt):Pos:=match s with
 |.FunctionDef _ _ _ _ _ _ _ _ _ c=>c
 |_=>⟨0,0,0,0⟩
def opens{l:oH}{K:cg->iR->Frag}{as:List Addr}{st:Stmt}{N:Nat}(ws:ni l=Y)(e:opening l.prog=plainProg l.prog.main.scope.names)(f:∀s,fenceModules? l.prog s=Z s)(B:Nat.ble 600 N=Y)(one:∀(w:cg) (os:iR),BX l.prog (only l.prog st) as w os N=Z (Y,openGood (only l.prog st) (BB l.prog),Y))(D:K=MM l.prog as N)(hd:defOf (only l.prog st) l.name=Z (⟨l.name,Qz st,Qn st,Qe st,yY st⟩,[]))(I:l.prog.theDef l.name=Z (Qz st,Qn st,Qe st))(L:kwWritten? (Qz st).kwonlyargs (Qz st).kw_defaults=Z [])(ok:(chainsOk (only l.prog st)&&opensWell l.prog&&(frees l.row.toRowW&&l.row.within.isEmpty))=Y)(M:l.prog.bare)(hw:l.row.toRowW.promised)(go:WalkO (only l.prog st) (BB l.prog) (λ_ _=>True) (λw h=>(K w (vr l.prog N w)).In h) l.row.toRowW ⟨l.name,Qz st,Qn st,Qe st,yY st⟩ [] λf vs=>mU f vs):l.Holds:=by
 rw[<-Fast.te9446332074065402090]at ws;subst D;exact holds_law ws λk=>holds_open (r:=l.row) (left e f B one) (λ_ _=>Frag.in_of (by delta MM;rw[aB];exact(mf _).symm)) (λ_ _ _=>Frag.In.keeps) (λ_ _=>trivial) (λ_ _ _ _ _=>trivial) hd I L (λs _=>recFacts_of (R:=[]) rfl) (jF _) k ok M hw go
def walkW{l:oH}{n k:Nat}{q:bh}{B:List Str}{zw:(Str->Option Value)->Heap->Prop}{d:DefRec}{K:cg->Frag}{sp:Frag->Sp}{x:Str}(hn:l.most=Z n)(L:n<=aV)(M:d.params.defaults=[])(hr:o8 k ki)(F:∀(w:cg) (mg:Str->Option Value) (I:Addr) (h:Heap),(K w).In h->h.Ns dB mg->mg d.name=Z (.ref I) ->
   ∃fd:eT,(∀(s:aH) (u:Value),BindsTo s fd ⟨[u],[]⟩ [(x,u)])/\∀base:Heap,(K w).In base->base.Ns dB mg->FnOk l.prog w (K w) mg base qh k I fd [x] (sp (K w)))(zx:∀(K:Frag) (H:Hp) (a:Addr) (ns:List Int),ns.length<=n->qg K H a (ns.map V.int)->sp K [.ref a] H (λv _=>v = .bl Y) λ_ _ _=>False) :
  WalkO q B zw (λw h=>(K w).In h) l.row.toRowW d [] (λf vs=>mU f vs):=by
 refine Att.attach_call hn M λw s₀ J mg mb I o pm cd doc a vs ns G zy ho hd av E D t j hg=>?_;obtain⟨fd,hb,hF⟩:=F w mg I _ zy G.T.g E;exact wO zy G.T.g G.T.b G.T.builtins G.T.nolimit hg D t (aY j L) hr hF hb (λH _ hS=>zx _ H a ns j hS) λ_ _ _ z=>z
noncomputable def fv(K:Frag)(f:Addr):Option (eT×Bool):=match K.lookup f with
 |some ⟨_,_,.func d,_⟩=>Z ({ d with kwdefaults := .none,doc := .none,pyModule := .none,annotations:=O,code := .none,closureTuple := .none },codeIn K d.code d.qualname)
 |_=>O
def fe(x q:Str)(st:Stmt)(dV:Value):Option (eT×Bool):=Z (fnOf x q (Qz st) (Qn st) (Qe st) dV .none .none .none O .none .none,Y)
set_option tactic.hygienic true in
def Tq{K:Frag}{f:Addr}{x q:Str}{st:Stmt}{dV:Value}(h:fv K f=fe x q st dV):∃D I kV doc L an B ct l,K.lookup f=Z ⟨D,I,.func (fnOf x q (Qz st) (Qn st) (Qe st) dV kV doc L an B ct),l⟩/\codeIn K B q=Y/\keepIn K (.ref f)=Y:=by
 delta fv at h;split at h
 .rename_i D I d l e;have h3:=bi h;have h1:d=fnOf x q (Qz st) (Qn st) (Qe st) dV d.kwdefaults d.doc d.pyModule d.annotations d.code d.closureTuple:=congrArg (λz:eT×Bool=>{ z.1 with kwdefaults:=d.kwdefaults,doc:=d.doc,pyModule:=d.pyModule,annotations:=d.annotations,code:=d.code,closureTuple:=d.closureTuple }) h3;have h2:codeIn K d.code d.qualname=Y:=congrArg Prod.snd h3;have hq:d.qualname=q:=congrArg eT.qualname h1;rw[hq]at h2;exact⟨D,I,d.kwdefaults,d.doc,d.pyModule,d.annotations,d.code,d.closureTuple,l,by rw[<-h1];exact e,h2,by delta keepIn;dsimp only;rw[e]⟩
 .cases h
def V3{K:Frag}{f:Addr}{x q:Str}{st:Stmt}(h:fv K f=fe x q st .none):∃fd,sO K x q st f fd:=by
 obtain⟨_,_,_,_,_,_,_,_,_,l,c,k⟩:=Tq h;exact⟨_,Im l c k⟩
def dv(K:Frag)(x:Str):Option (eT×Bool):=match nsIn K dB x with
 |some (Z (.ref f))=>fv K f
 |_=>O
set_option tactic.hygienic true in
def Pk{K:Frag}{x:Str}{st:Stmt}(h:dv K x=fe x x st .none):∃f fd,nsIn K dB x=Z (Z (.ref f))/\sO K x x st f fd:=by
 delta dv at h;split at h
 .rename_i f e;obtain⟨fd,F⟩:=V3 h;exact⟨f,fd,e,F⟩
 .cases h
def mv(K:Frag)(C:Addr)(m:Str):Option (Bool×eT×Bool):=match findIn K (.ref C) m with
 |some (Z (.ref f))=>(fv K f).map λx=>(isFn K (.ref f),x)
 |_=>O
set_option tactic.hygienic true in
def Pl{K:Frag}{C:Addr}{m q:Str}{st:Stmt}(h:mv K C m=(fe m q st .none).map λx=>(Y,x)):∃f fd,tv K C m f/\sO K m q st f fd:=by
 delta mv at h;split at h
 .rename_i f e;cases h1:fv K f with
  |none=>rw[h1]at h;cases h
  |some x =>
   rw[h1]at h;have h2:=bi h;obtain⟨fd,F⟩:=V3 (h1.trans (congrArg Z (congrArg Prod.snd h2)));exact⟨f,fd,⟨e,congrArg l9 h2,F.kp⟩,F⟩
 .cases h
def nm:Stmt->Str
 |.FunctionDef n ..=>n
 |_=>""
def an(st:Stmt):List Str:=(Qz st).args.map (·.arg)
def Pm{α B:Type}{f g:α->B}{l:List α}(h:l.map f=l.map g):∀a,a∈l->f a=g a:=List.map_inj_left.mp h
def lb5{α:Type}{P:List α->Prop}(h:∀a b c d e,P [a,b,c,d,e]):∀us,us.length=5->P us:=by
 intro us l;cases us with
 |nil=>cases l
 |cons a us=>exact L2.PM.lb4 (P:=λus=>P (a::us)) (h a) us (iM l)
def Pn{α B:Type}[BEq α][LawfulBEq α]{f g:α->B}{l:List α}(h:l.map f=l.map g):∀a,l.contains a=Y->f a=g a:=λa j=>Pm h a (by simpa using j)
theorem lkE{B:Type}{f:Str->B}{g:Nat->B}:∀{l:List (Str×Nat)}{x:Str},l.map (λy=>f y.1)=l.map (λy=>g y.2)->(l.lookup x).isSome=Y->f x=g ((l.lookup x).getD 0)
 | (a,j)::l,x,h,t=>by
  rw[aT,aT]at h;injection h with h1 h2
  rw[bC]at t |-;cases e:x==a with
  |true=>rw[a9.mp e];exact h1
  |false=>rw[e]at t;exact lkE h2 t
def iv:Option Value->Option Int
 |some (.int v _)=>Z v
 |_=>O
def in_of{o:Option (Option Value)}{v:Int}(h:o.bind iv=Z v):∃t,o=Z (Z (.int v t)):=by
 cases o with
 |none=>cases h
 |some o =>
  cases o with
  |none=>cases h
  |some u =>
   cases u with
   |int _ t=>cases h;exact⟨t,rfl⟩
   |_=>cases h
end HD
namespace L2.PM
open PySem PySem.Spec PyProof.Rows
section
def Po(h:EM X ns e m)(q:ns=ms):EM X ms e m:=q▸h
def GY(h:AM X ns l B)(q:ns=ms):AM X ms l B:=q▸h
end
section
def V4{P:bh}{K:ab}{st:Stmt}{ps:List Str}{D:Type}{Q:Hp->Hp->Addr->D->Prop}{m:MX D}(M:sO K x qual st f fd)(zy:(sZ (Qe st)).length=L)(T:ps.length=n)(I:pB (sZ (Qe st)) ps (Qe st))(zx:Qn st=body)(l:(sZ (Qe st)).Nodup->∀(B:Value) (A:dI) (outer:List Env) (s:aH) (H:Hp) (E:XK),o8 k (A.deeper (fR qual (Qe st) s.heap.objs.size f B))->GO (qI qh P w K mg base (sZ (Qe st)) qual (Qe st) f B A outer s H E).nox Q 0 body m):FnOk P w K mg base qh (k+1) f fd ps (Dp K Q n (qA L n m)):=by subst zx;exact zy▸fnX M I T (l I.nd)
def V5{P:bh}{K:ab}{st:Stmt}{ps:List Str}{D:Type}{Q:Hp->Hp->Addr->D->Prop}{m:MX D}(M:uj K x qual st f fd)(zy:(sZ (Qe st)).length=L)(T:ps.length=n)(I:pB (sZ (Qe st)) ps (Qe st))(zx:Qn st=body)(l:(sZ (Qe st)).Nodup->∀(B:Value) (A:dI) (outer:List Env) (s:aH) (H:Hp) (E:XK),o8 k (A.deeper (fR qual (Qe st) s.heap.objs.size f B))->GO (qI qh P w K mg base (sZ (Qe st)) qual (Qe st) f B A outer s H E).nox Q 0 body m):FnOk P w K mg base qh (k+1) f fd ps (Dp K Q n (qA L n m)):=by subst zx;exact zy▸Pb M I T (l I.nd)
end
end L2.PM
namespace L2.PM
open PySem PySem.Spec PyProof.Rows PySem.Builtin PySem.Builtin.Str
section
def GZ:PV->List PV->Option PV
 |.str x,[.str y]=>if (y.length==0)=U/\x.length<=qy then Z (.tup [.str (gh x y).1,.str (gh x y).2.1,.str (gh x y).2.2]) else O
 |_,_=>O
set_option tactic.hygienic true in
def DG{X:Cx}:wM X "str.partition" (BJ X.K GZ):=by
 intro j s L H x xs v us Q I M rs h;obtain⟨F,p,ps,r,h1,h2,h3,B,w⟩:=h;unfold GZ at B;split at B
 .rename_i x y;obtain⟨⟨zx,T⟩,rfl⟩:=Qi B;unfold o3 at h2;subst h2;obtain⟨t,rfl⟩:=M;unfold oP at h3;obtain⟨v1,r1,rfl,h3,D⟩:=h3;unfold oP at D;subst D;unfold o3 at h3;subst h3;obtain⟨u,rfl,zw⟩:=Zx rs;obtain⟨zy,rfl⟩:=zw;have hp:H s.heap.objs.size=O:=I.hok.fresh (au _);have go:∀(a b c:Str)(E J tc:Tok)(k:Nat),gh x y=(a,b,c)->EP X j L Q (.ref s.heap.objs.size) { s with heap:=s.heap.push { cls := .type "tuple",data := .seq [nv a E,.str b J,.str c tc].toArray },toks:=k }:=λa b c E J tc k e=>by
   refine⟨.ref s.heap.objs.size,_,I.laid (t':=k) (o := .tup [.str a,.str b,.str c]) (λ_ _ q=>ae _ q) (au _) ⟨by show 3<=aV;decide,_,.cons ⟨_,rfl⟩ (.cons ⟨_,rfl⟩ (.cons ⟨_,rfl⟩ .nil)),YR.new _ _ _⟩,rfl,w _ _ _ (.laid h1 hp) ?_⟩;rw[e];unfold o3;exact⟨_,[.str a,.str b,.str c],rfl,.of Qf,YM [a,b,c]⟩
  refine gx kq (ir _ _ _) PySem.F.entry_str_partition (PySem.F.args_str_partition_2 _ _) (meets_str_partition x y t zy zx (aY T QO)) ?_;cases ho:occurrences x y 0 x.length 1 with
  |_=>exact go _ _ _ _ _ _ _ (by unfold gh;rw[ho])
 .cases B
def DI{D l:Pos}(h:EM X ms o m)(T:AM X ns (e::M) zx)(I:bY o "partition" X.env (eval o X.env)=eval o X.env:=by rfl)(zy:((bA l (ah (e::M) X.env)).all (λx => !x.1)&&(dF l (cn [] X.env)).all (λx=>x.1.isSome)
   && decide ((e::M).length+([]:List dD).length+(if ([]:List dD).isEmpty then 0 else 1)<30))=Y:=by rfl)(L:(D.endLine==l.line)=Y:=by rfl)(hs:ah (e::M) X.env=(U,eval e X.env)::ah M X.env:=by rfl)(B:(bA l (ah M X.env)).any (·.1)=U:=by rfl) :
  EM X (ms++ns) (.Call (.Attribute o "partition" D) (e::M) [] l) (rO "str" GZ m zx) :=
 Oz h T (Cq fm kq PySem.F.type_str_partition DG h T I zy L hs B)
def Pp:PV->List PV->Option PV
 | .lst xs,[.str k]=>match strs? xs with
  |some ns=>if k∈ns then Z (.int (ns.idxOf k:Nat)) else O
  |none=>O
 |_,_=>O
set_option tactic.hygienic true in
def Qmq:wM X "list.index" (BJ X.K Pp):=by
 intro L s σ H x xs v us Q I T rs h;obtain⟨F,p,ps,r,h1,h2,h3,j,w⟩:=h;unfold Pp at j;split at j
 .rename_i zs k;split at j
  .rename_i ys B;obtain⟨c,rfl⟩:=Qi j;unfold o3 at h2;obtain⟨a,ws,rfl,k2,zw⟩:=h2;cases T;unfold oP at h3;obtain⟨v1,r1,rfl,h3,M⟩:=h3;unfold oP at M;subst M;unfold o3 at h3;subst h3;obtain⟨u,rfl,zy⟩:=Zx rs;obtain⟨tk,rfl⟩:=zy;have e3:=Ye B zw;subst e3;obtain⟨t,rv,pl,_⟩:=I.list (h1.seq k2);have hz:(ys.map V.str).length<=aV:=by assumption
   obtain⟨o,n,p1,p2,p3,p4⟩:=pl;obtain⟨oc,od,dd,os⟩:=o;cases p2;cases p4;have sa:=YL rv;have zx:t.length=ys.length:=sa.length;have D:ys.idxOf k<ys.length:=bH.mpr c;have at_:∀i (h:i<t.toArray.size),∃l,t.toArray[i] = .str (ys.getD i "") l:=λi h=>by
    obtain⟨l,e⟩:=Qdi sa i (by simpa using h);exact⟨l,by rw[aG (by simpa using h)]at e;simpa using e⟩
   have sz:aV<2^63-1:=by decide
   refine gx kY ⟨_,p1,rfl⟩ PySem.F.entry_list_index (PySem.F.args_list_index_2 _ _) (PySem.SeqAt.list_indexAt a t.toArray n _ _ (.str k tk) (λy=>match y with | .str z _=>z==k | _=>U) (ys.idxOf k) (by simpa[zx] using D) (by rw[ag]at hz;omega) ?_ ?_) ⟨p1,λy hy=>?_,⟨.int _,H,I.tok _,⟨_,rfl⟩,w.here h1 (Qp _)⟩⟩
   .obtain⟨l,e⟩:=at_ (ys.idxOf k) (by simpa[zx] using D);rw[e];show(ys.getD (ys.idxOf k) ""==k)=Y;rw[Tj D];simp
   .intro i E J;obtain⟨l,e⟩:=at_ i E;rw[e];show(ys.getD i ""==k)=U;have:=lC J;rw[Tj (by omega)];simpa using this
   .obtain⟨i,E,rfl⟩:=Array.getElem_of_mem hy;obtain⟨l,e⟩:=at_ i E;rw[e];exact λ_ _ _ _ q=>gP q
  .cases j
 .cases j
def vM{D l:Pos}(h:EM X ms o m)(T:AM X ns (e::M) zx)(I:bY o "index" X.env (eval o X.env)=eval o X.env:=by rfl)(zy:((bA l (ah (e::M) X.env)).all (λx => !x.1)&&(dF l (cn [] X.env)).all (λx=>x.1.isSome)
   && decide ((e::M).length+([]:List dD).length+(if ([]:List dD).isEmpty then 0 else 1)<30))=Y:=by rfl)(L:(D.endLine==l.line)=Y:=by rfl)(hs:ah (e::M) X.env=(U,eval e X.env)::ah M X.env:=by rfl)(B:(bA l (ah M X.env)).any (·.1)=U:=by rfl) :
  EM X (ms++ns) (.Call (.Attribute o "index" D) (e::M) [] l) (rO "list" Pp m zx) :=
 Oz h T (Cq f9 kY PySem.F.type_list_index Qmq h T I zy L hs B)
end
end L2.PM
namespace L2.PM
open PySem PySem.Spec PyProof.Rows
section
def Pq{n k L:Nat}{g:List PV->Option (List PV)}{M:oN->Option (List PV)}(c:Jw X.prog X.w X.K X.mg X.base k x n g)(zx:AM X ms (e::l) M)(T:∀ps r,g ps=Z r->ps.length=n)(hr:o8 L X.A)(zw:k<=L)(zy:Gl X x)(B:(x==("__debug__":Str))=U)(he:ah (e::l) X.env=(U,eval e X.env)::ah l X.env)(D:(bA I (ah l X.env)).any (·.1)=U):EO X ms (.Call (.Name x p) (e::l) [] I) (Qb g M):=Jy c T (hr.mono zw) zy zx B he D
def V6{P:bh}{w:cg}{K:ab}{mg:Str->Option Value}{base:Heap}{x qual:Str}{st:Stmt}{f:Addr}{fd:eT}{ps:List Str}{k n L:Nat}{m:pW}{body:List Stmt}(I:sO K x qual st f fd)(M:(sZ (Qe st)).length=L)(zy:ps.length=n)(D:pB (sZ (Qe st)) ps (Qe st))(T:Qn st=body)(l:(sZ (Qe st)).Nodup->∀(B:Value) (A:dI) (outer:List Env) (s:aH) (H:Hp) (E:XK),o8 k (A.deeper (fR qual (Qe st) s.heap.objs.size f B))->ua (qI qh P w K mg base (sZ (Qe st)) qual (Qe st) f B A outer s H E).nox body m):FnOk P w K mg base qh (k+1) f fd ps (Ol K n (ub L n m)):=by subst T;exact M▸fnO I D zy (l D.nd)
def V7{m:pI}{l:Expr}{D ls:List Nat}{g:PV->oN->Option oN}(h:EM X ms e m)(I:GM X D l g)(L:ls=ms)(hs:mO [l] e B.line X.env=pure U)(hw:mP [l] e X.env=pure O)(h1:(gQ [l] X.env).map (·.2)=[assign l X.env]):SM X (.Assign [l] e B) (xn ls g m):=by subst L;exact Jg h I hs hw h1
def lb6{α:Type}{P:List α->Prop}(h:∀a b c d e f,P [a,b,c,d,e,f]):∀us:List α,us.length=6->P us:=by
 intro us l;cases us with
 |nil=>cases l
 |cons a us=>exact HD.lb5 (P:=λus=>P (a::us)) (h a) us (iM l)
end
section
def Kj{D:List Str}(hq:scope.names.any (λx=>x.2==.cell)=Y)(hn:V0 zy++(B.map λi=>X.N.getD i "")=D)(ck:(Sr X.N X.env.scope scope D nt B&&decide D.Nodup)=Y)(hi:IM X ms zy iter mi)(hg:D.Nodup->∀l I C s H L,GU (YA X (qX scope) l D (Qx X.env.scope scope) I C s H L) nt zy g)(ht:∀l I C s H L,IU (YA X (qX scope) l D (Qx X.env.scope scope) I C s H L) D.length M t)(he:∀l I C s H L,EU (YA X (qX scope) l D (Qx X.env.scope scope) I C s H L) D.length zx m)(av:tD g)(hc:X.calm=Y)(hs:∀x,cC iter X.env x=pure x)(T:relabel scope X.env=Qx X.env.scope scope)(hN:X.N.Nodup)(az:X.N[i]?=Z y)(hy:X.env.scope.names.lookup y=Z .local)(aq:c7 (.ListComp zx [⟨zy,iter,M,0⟩] scope aj) (Z (.Name y py)) zw.line X.env=pure Y)(q:ms++B=ak):SM X (.Assign [.Name y py] (.ListComp zx [⟨zy,iter,M,0⟩] scope aj) zw) (Qs ak i (Qo mi nt B g t m)):=have z:=(aQ ..).mp ck;q▸Qdj hN az hy hc (Ir rfl rfl z.1) (λi h=>aR.mp h) av hi (hg (bD z.2)) ht he aq hs T
end
end L2.PM
namespace K60
open PySem PySem.Spec PySem.W PyProof.Rows L2 L2.PM HD
def cc:=VI [359,387,411,437,456,689,0,0,0,0,0,0,0,0,0,0,0,0,0,0,0,0,0]
noncomputable def blt:List Str:=["all","any","enumerate","isinstance","len","list","max","min","range","reversed","set","sorted","str","sum","tuple","zip"]
noncomputable def cst:List (Str×Int):=[("MOST_GUESSES",8),("MOST_IN_BODY",6),("MOST_LETTERS",12),("MOST_RULES",40),("MOST_WORDS",30)]
noncomputable def V8:List (Str×Nat):=[("Lot",0),("Settled",1),("Sure",2),("Maybe",3),("Never",4),("Desk",5)]
noncomputable def Tr:List Nat:=[2,3,4,5,7,8,9,10,11,12,14,15,16,17,18,19,21,22,23,24,25,26,27,42,43,44,46,52,60,61,62,64,65,66,67,68,69,70,71,72,73,74,75,76,77,78,80,81,82,83,84,85,86,87,88,89,90,94,95,96,97,98,99,100,101,102,103,104,105,106,107,108,109]
def cls:List Addr:=[cc 1,cc 2,cc 3,cc 4,cc 5]
def Pr:List Str:=["word","name","reason","pairs","camp","other","lines","names","book"]
def V9:List (Nat×Str×Str×Stmt):=[(1,"shown","Settled.shown",Zs (top 48) 1),(1,"__init__","Settled.__init__",Zs (top 48) 0),(2,"shown","Sure.shown",Zs (top 49) 1),(2,"__init__","Sure.__init__",Zs (top 49) 0),(3,"shown","Maybe.shown",Zs (top 50) 1),(3,"__init__","Maybe.__init__",Zs (top 50) 0),(4,"shown","Lot.shown",Zs (top 47) 2),(4,"__init__","Never.__init__",Zs (top 51) 0),(5,"keep","Desk.keep",Zs (top 92) 1),(5,"ask","Desk.ask",Zs (top 92) 3)]
structure Bd (P:bh) (w:cg) (K:Frag) (mg:Str->Option Value) (base:Heap):Prop where
 ex:(∃w o,K=kk w o)/\∃h,K.In h/\h.Ns dB mg
structure Txt (K:Frag) (mg:Str->Option Value):Prop where
 b:∀x,blt.contains x=Y->mg x=O
 i:∀x v,cst.contains (x,v)=Y->∃t,mg x=Z (.int v t)
 z:∃a,mg "NO_WORDS"=Z (.ref a)/\GT K a ["guess","unless","if"]
 n:∀x,(V8.lookup x).isSome=Y->mg x=Z (.ref (cc ((V8.lookup x).getD 0)))
 d:∀i,Tr.contains i=Y->∃f fd,mg (nm (top i))=Z (.ref f)/\sO K (nm (top i)) (nm (top i)) (top i) f fd
 c:∀D,cls.contains D=Y->tZ K D/\makesIn K D=Y/\keepIn K (.ref D)=Y/\∀x,Pr.contains x=Y->BD K D x
 m:∀(i:Nat)(x:Nat×Str×Str×Stmt),V9[i]?=Z x->∃f fd,tv K (cc x.1) x.2.1 f/\sO K x.2.1 x.2.2.1 x.2.2.2 f fd
 o:specialIn K (.ref (cc 0)) "__getattribute__"=Z (Z (.builtin "type.__getattribute__"))/\readsIn K (cc 0) (.type "type")=Y/\findCls K (.ref (cc 0)) (.type "type") "__init__"=Z (.val (.ref 342))/\∃fd,sO K "__init__" "Lot.__init__" (Zs (top 47) 0) 342 fd
 v:∃fd,uj K "__init__" "Desk.__init__" (Zs (top 92) 0) 667 fd/\findIn K (.ref (cc 5)) "__init__"=Z (Z (.ref 667))/\isFn K (.ref 667)=Y
 d_read_row:∃fd,mg "read_row"=Z (.ref 489)/\sy K "read_row" "read_row" (top 63) 489 fd 0
 d_camps:∃fd,mg "camps"=Z (.ref 174)/\sy K "camps" "camps" (top 29) 174 fd 0
def fx{P:bh}{w:cg}{K:Frag}{mg:Str->Option Value}{base:Heap}(B:Bd P w K mg base):Txt K mg:=by
 obtain⟨⟨p,os,rfl⟩,h,X,G⟩:=B.ex;exact⟨λx u=>mg_none_of X G (Pn (f:=nsIn (kk p os) dB) (g:=λ_=>Z O) (l:=blt) (by kernel_rfl) x u),
  λx v u=>(in_of (Pn (f:=λx=>(nsIn (kk p os) dB x.1).bind iv) (g:=λx=>Z x.2) (l:=cst) (by kernel_rfl) _ u)).imp λt e=>mg_of X G e,
  ⟨464,mg_of X G (by kernel_rfl),_,_,_,(by kernel_rfl:(kk p os).lookup 464=Z ⟨(.type "tuple"),O,(.seq #[(.str "guess" 796),(.str "unless" 797),(.str "if" 798)] 0),#[]⟩),rfl,rfl,rfl,(by decide:3<=aV),.cons ⟨_,rfl⟩ (.cons ⟨_,rfl⟩ (.cons ⟨_,rfl⟩ .nil))⟩,
  λx u=>mg_of X G (lkE (f:=λx=>nsIn (kk p os) dB x) (g:=λj=>Z (Z (.ref (cc j)))) (by kernel_rfl) u),
  λi E=>have⟨f,fd,a,F⟩:=Pk (Pn (f:=λi=>dv (kk p os) (nm (top i))) (g:=λi=>fe (nm (top i)) (nm (top i)) (top i) .none) (l:=Tr) (by kernel_rfl) i E);⟨f,fd,mg_of X G a,F⟩,
  λD H=>have z:=Pn (f:=λD=>(plainGet (kk p os) D Str.empty,hasDictIn (kk p os) D,plainOver (kk p os) D,findIn (kk p os) (.ref D) "__setattr__",makesIn (kk p os) D,keepIn (kk p os) (.ref D),Pr.map (findIn (kk p os) (.ref D)))) (g:=λ_=>(Y,Y,Y,Z (Z (.builtin "object.__setattr__")),Y,Y,Pr.map λ_=>Z O)) (l:=cls) (by kernel_rfl) D H
   ⟨⟨congrArg (·.1) z,congrArg (·.2.1) z,congrArg (·.2.2.1) z,congrArg (·.2.2.2.1) z⟩,congrArg (·.2.2.2.2.1) z,congrArg (·.2.2.2.2.2.1) z,Pn (congrArg (·.2.2.2.2.2.2) z)⟩,
  λi x E=>Pl (Pm (f:=λx=>mv (kk p os) (cc x.1) x.2.1) (g:=λx=>(fe x.2.1 x.2.2.1 x.2.2.2 .none).map λx=>(Y,x)) (l:=V9) (by kernel_rfl) x (bV E)),
  ⟨by kernel_rfl,by kernel_rfl,by kernel_rfl,V3 (by kernel_rfl)⟩,
  by obtain⟨_,_,_,_,_,_,_,_,_,l,c,k⟩:=Tq (dV := .ref 660) (by kernel_rfl:fv (kk p os) 667=fe "__init__" "Desk.__init__" (Zs (top 92) 0) _);exact⟨_,DF l c k (by kernel_rfl:(kk p os).lookup 660=Z ⟨(.type "tuple"),O,(.seq #[(.str "" 1045)] 0),#[]⟩),by kernel_rfl,by kernel_rfl⟩,
  by obtain⟨_,_,_,_,_,_,_,_,_,l,c,k⟩:=Tq (dV := .ref 482) (by kernel_rfl:fv (kk p os) 489=fe "read_row" "read_row" (top 63) _);exact⟨_,mg_of X G (by kernel_rfl),Qlk l c k (by kernel_rfl:(kk p os).lookup 482=Z ⟨(.type "tuple"),O,(.seq #[(.int 0 829)] 0),#[]⟩)⟩,
  by obtain⟨_,_,_,_,_,_,_,_,_,l,c,k⟩:=Tq (dV := .ref 169) (by kernel_rfl:fv (kk p os) 174=fe "camps" "camps" (top 29) _);exact⟨_,mg_of X G (by kernel_rfl),Qlk l c k (by kernel_rfl:(kk p os).lookup 169=Z ⟨(.type "tuple"),O,(.seq #[(.int 0 396)] 0),#[]⟩)⟩⟩
end K60
namespace L2.PM
open PySem PySem.Spec PyProof.Rows
def QjT(h1 : -(2^64)<j)(h2:j<2^64):uB i j=Y:=by
 delta uB;rw[dQ];exact .inr (N3 ⟨h1,h2⟩)
def Qnj(h1 : -(2^64)<i)(h2:i<2^64):uB i j=Y:=by
 delta uB;rw[dQ];exact .inl (N3 ⟨h1,h2⟩)
def tH i j:o7 (.int i) (.int j)=Z (.int (i+j)):=rfl
def yZ i j:vt (.int i) (.int j)=Z (.int (i-j)):=rfl
theorem y0(h1 : -(2^64)<i)(h2:i<2^64):rJ (.int i) (.int j)=Z (.int (i*j)):=aw (Qnj h1 h2)
def y3(h1 : -(2^64)<j)(h2:j<2^64):rJ (.int i) (.int j)=Z (.int (i*j)):=aw (QjT h1 h2)
def uP(h:0<j):pz (.int i) (.int j)=Z (.int (i%j)):=aw (a8 h)
theorem uQ(h:0<j)(h2:j<2^200):sP (.int i) (.int j)=Z (.int (i/j)):=aw (N3 ⟨h,h2⟩)
def G0 i j:BG (.int i) (.int j)=Z (.bl (decide (i<j))):=rfl
def G1 i j:GC (.int i) (.int j)=Z (.bl (decide (i<=j))):=rfl
def G2 i j:t5 (.int i) (.int j)=Z (.bl (decide (j<i))):=rfl
def G3 i j:N4 (.int i) (.int j)=Z (.bl (decide (j<=i))):=rfl
def y4 i j:qJ (.int i) (.int j)=Z (.int (jE i j)):=rfl
def Pt i j:Cw (.int i) (.int j)=Z (.int (gY i j)):=rfl
def y7(l:0<=k)(h1:k<=1000000):ql (.int 1) (.int k)=Z (.int (2^k.toNat)):=by
 have e:ql (.int 1) (.int k)=Z (.int (1*2^k.toNat)):=aw (N3 ⟨l,h1,by decide⟩);rw[e,Int.one_mul]
def Kk(l:0<=k):Cv (.int i) (.int k)=Z (.int (i/2^k.toNat)):=aw (a8 l)
def DJ i:p9 (.int i)=Y:=by simp[p9,pH,vd]
def Kl(h:aA s=Y):p9 (.str s)=Y:=by simp[p9,pH,vd,h]
def Wa(h1:p9 p=Y)(h2:p9 q=Y):pC p q=Z (.bl (peq p q)):=aw ⟨h1,h2⟩
def y8(h1:p9 p=Y)(h2:p9 q=Y):sg p q=Z (.bl (!peq p q)):=aw ⟨h1,h2⟩
def G4 i j:pC (.int i) (.int j)=Z (.bl (i==j)):=by rfl
def G5 i j:sg (.int i) (.int j)=Z (.bl (!(i==j))):=by rfl
def DK p:IK p .non=Z (.bl (isN p)):=by cases p<;>rfl
def uR p:Oe p .non=Z (.bl (!isN p)):=by cases p<;>rfl
def Ya(h:n<=100000):n<=qy:=aY h (by decide)
def Wb(h:n<=100000):n<qy:=hL h (by decide)
def uS ms l:QZ Y ms l=l:=rfl
def uk ms l:QZ U ms l=frz ms l:=rfl
def y9 i:flat (.int i)=Y:=rfl
def DL i:flat (.bl i)=Y:=rfl
def ze i:flat (.str i)=Y:=rfl
def zf:flat .non=Y:=rfl
def zi i:flat (.tup i)=U:=rfl
def zj i:flat (.lst i)=U:=rfl
def tI(ns:List Int):(ns.map PV.int).all flat=Y:=by simp[flat]
def tJ(ns:List Str):(ns.map PV.str).all flat=Y:=by simp[flat]
def DM xs i:oU (.lst xs) (.int i)=rX xs i:=rfl
def DN xs i:oU (.tup xs) (.int i)=rX xs i:=rfl
theorem Pu{α:Type} f b y :
  ∀(xs:List α),(∀x∈xs,∃γ1,g (f x) B=Z γ1/\t γ1=Z (b x)/\(b x=Y->e γ1=Z (y x)))->YX g t e B (xs.map f)=Z ((xs.filter b).map y)
 |[],_=>rfl
 |x::xs,h=>by
  obtain⟨γ1,h1,h2,h3⟩:=h x a7;have l:=Pu f b y xs λz hz=>h z (ay _ hz);rw[aT,YX,h1,bm,h2,bm];cases j:b x with
  |true =>
   rw[aw rfl,h3 j,bm,l,de j];rfl
  |false =>
   rw[aN f8,l,cm (by simp[j])]
def Qk{α:Type} f y (xs:List α) (h:∀x∈xs,∃γ1,g (f x) l=Z γ1/\e γ1=Z (y x)):YX g Qw e l (xs.map f)=Z (xs.map y):=by
 have:=Pu (t:=Qw) f (λ_=>Y) y xs λx j=>by
  obtain⟨γ1,h1,h2⟩:=h x j;exact⟨γ1,h1,rfl,λ_=>h2⟩
 rw[this,je.mpr (λ_ _=>rfl)]
theorem Pw{α L:Type} f step (R:L->oN->Prop) :
  ∀(xs:List α) l B,R l B->(∀l B x,x∈xs->R l B->∃γ1 D,g (f x) B=Z γ1/\b γ1=Z (.nx D)/\R (step l x) D)->∃I,pQ g b (xs.map f) B=Z (.nx I)/\R (xs.foldl step l) I
 |[],l,B,r,_=>⟨B,rfl,r⟩
 |x::xs,l,B,r,h=>by
  obtain⟨γ1,D,h1,h2,h3⟩:=h l B x a7 r;obtain⟨I,e,j⟩:=Pw f step R xs (step l x) D h3 λa B z hz=>h a B z (ay _ hz);refine⟨I,?_,j⟩;rw[aT,pQ,h1,bm,h2,bm];exact e
theorem QW{α:Type} f (R:List α->oN->Prop) xs :
  ∀ys pre l,pre++ys=xs->R pre l->(∀pre x post l,pre++x::post=xs->R pre l->∃γ1 B,g (f x) l=Z γ1/\b γ1=Z (.nx B)/\R (pre++[x]) B)->∃D,pQ g b (ys.map f) l=Z (.nx D)/\R xs D
 |[],pre,l,e,r,_=>by
  rw[bB]at e;subst e;exact⟨l,rfl,r⟩
 |x::ys,pre,l,e,r,h=>by
  obtain⟨γ1,B,h1,h2,h3⟩:=h pre x ys l e r;obtain⟨D,j,t⟩:=QW f R xs ys (pre++[x]) B (by rw[bX];exact e) h3 h;refine⟨D,?_,t⟩;rw[aT,pQ,h1,bm,h2,bm];exact j
def pJoin_s(h:(ss.map cE).sum+ss.length*l.length<=qy):xB (.str l) [.lst (ss.map .str)]=Z (.str (aL l ss)):=by
 show(match PM.strs? (ss.map PV.str) with
  |some ys=>if (ys.map cE).sum+ys.length*l.length<=qy then Z (PV.str (aL l ys)) else O
  |none=>O)=_
 rw[PM.strs?_map];exact aw h
def pw(row:List Nat):Nat:=(row.map λi=>2^i).sum
def BO(m:Nat):Nat:=if m=0 then 0 else m.log2+1
def qG(m:Nat):List Nat:=(ai (BO m)).filter λk=>m.testBit k
def Qgg(h:m.testBit k=Y):k<BO m:=by
 have h1 :=hV h;have j:m≠0:=by
  rintro rfl;simp at h
 delta BO;rw[aN j];have:=(Nat.le_log2 j).mpr h1;lia
def XA:k∈qG m↔m.testBit k=Y:=by
 delta qG;rw[aK,aR];exact⟨λh=>h.2,λh=>⟨Qgg h,h⟩⟩
def QkS m:(qG m).Pairwise (· < ·):=eS _ fq
def Km{a b:List Nat}(l:a.Pairwise (· < ·))(B:b.Pairwise (· < ·))(h:∀x,x∈a↔x∈b):a=b:=by
 have j :=l.imp λh=>aM h;have t :=B.imp λh=>aM h;have p :=(fJ j t).mpr h;exact fT (λx y _ _ h1 h2=>absurd (fL h1 h2) (cp _)) l B p
def QhJ(m:Nat):ib m=BO m:=by
 delta ib BO;by_cases h:m=0
 .subst h;rfl
 .simp
def Qmh(m:Nat):M2 (.int m) []=Z (.int (BO m)):=by
 have e:=QhJ m;show Z (PV.int ((ib (m:Int))))=_;rw[e]
def Kn j:tA 0 j=(ai j.toNat).map λ(k:Nat)=>PV.int k:=by
 grind[tA]
def Ts:PV->Option (List PV)
 |.int j=>if vA j=Y then Z (tA 0 j) else O
 |_=>O
def G6(h1 : -100000<=j)(h2:j<=100000):Ts (.int j)=Z ((ai j.toNat).map λ(k:Nat)=>PV.int k):=by
 have e:Ts (.int j)=if vA j=Y then Z (tA 0 j) else O:=rfl;rw[e,aw (Vk (by lia) (by lia)),Kn]
def DO m l:rk m l=(m l).bind Ts:=by
 delta rk;cases m l with
 |none=>rfl
 |some p=>cases p<;>rfl
def itL:PV->Option (List PV)
 |.lst xs=>Z xs
 |_=>O
def Px xs:itL (.lst xs)=Z xs:=rfl
def DP m l:pG m l=(m l).bind itL:=by
 delta pG;cases m l with
 |none=>rfl
 |some p=>cases p<;>rfl
def itT:PV->Option (List PV)
 |.tup xs=>Z xs
 |_=>O
def Py xs:itT (.tup xs)=Z xs:=rfl
def DQ m l:qO m l=(m l).bind itT:=by
 delta qO;cases m l with
 |none=>rfl
 |some p=>cases p<;>rfl
def Wc:PV->Option (List PV)
 |.lst xs=>Z xs
 |.tup xs=>Z xs
 |_=>O
def Pz xs:Wc (.lst xs)=Z xs:=rfl
def PB xs:Wc (.tup xs)=Z xs:=rfl
def DR m l:xC m l=(m l).bind Wc:=by
 delta xC;cases m l with
 |none=>rfl
 |some p=>cases p<;>rfl
def vi xs:Jz [.lst xs]=Z (xs.zipIdx.map λx=>.tup [pN x.2,x.1]):=rfl
def DS xs:GJ [.tup xs]=Z (xs.zipIdx.map λx=>.tup [pN x.2,x.1]):=rfl
def Ko xs:uF [.lst xs]=Z xs.reverse:=rfl
def DT xs:SI [.lst xs]=Z (.tup xs.reverse):=rfl
def PC(g:PV->oN->Option oN)(t:oN->Option Bool)(e:pI)(l:oN)(xs:List PV):Option (List PV):=if xs.length<=qy then YX g t e l xs else O
def qB(h:xs.length<=100000):PC g t e l xs=YX g t e l xs:=aw (Ya h)
def zk D nt l g t e B:Qo D nt l g t e B=(D B).bind (PC g t e (su nt l B)):=rfl
def tK(s2:pW):tV->Option tV
 |.nx j=>s2 j
 |o=>Z o
def tL s2 l:tK s2 (.nx l)=s2 l:=rfl
def DU s2 p:tK s2 (.rt p)=Z (.rt p):=rfl
def DV s2 p:tK s2 (.ro p)=Z (.ro p):=rfl
def DW s2 l:tK s2 (.ct l)=Z (.ct l):=rfl
def DX s2 l:tK s2 (.bk l)=Z (.bk l):=rfl
def tN s1 s2 l:oM s1 s2 l=(s1 l).bind (tK s2):=by
 delta oM;cases s1 l with
 |none=>rfl
 |some o=>cases o<;>rfl
def rq N ps:Zp N ps=ps.map .fz++gq (N-ps.length) .un:=rfl
def DY p:rm (.rt p)=Z p:=rfl
def DZ xs:rm (.ro xs)=Z (.lst xs):=rfl
def D0 l:rm (.nx l)=Z .non:=rfl
def D3{α:Type}(f:PV->PV->Option α) B D l:oJ f B D l=(B l).bind λx=>(D l).bind (f x):=rfl
def D4 i l:nP i l=qr l i:=rfl
def PD p l:mC p l=Z p:=rfl
def zm{α:Type}(g:List PV->Option α) l B:Qb g l B=(l B).bind g:=rfl
def D5 m l:o6 m l=(m l).map PV.lst:=rfl
def PF(xs:List PV):Option PV:=if xs.length<=qy then Z (.tup xs) else O
def D6(h:xs.length<=100000):PF xs=Z (.tup xs):=aw (Ya h)
def D7 m l:pV m l=(m l).bind PF:=rfl
def PH(xs:List PV):Option (List PV):=if xs.length<=qy then Z xs else O
def D8(h:xs.length<=100000):PH xs=Z xs:=aw (Ya h)
def D9 m l:pD m l=(m l).bind PH:=rfl
def Ea l:oK l=Z []:=rfl
def zo m B l:Qa m B l=(m l).bind λx=>(B l).map (x :: ·):=rfl
theorem uT b:BF (.bl b)=Z b:=rfl
def Eb m l:oQ m l=(m l).bind BF:=rfl
def Ec f m l:uc f m l=(m l).bind (tE f):=rfl
def Kp f i:tE f (.int i)=Z (.bl (f (.int i))):=rfl
def Kq f i:tE f (.bl i)=Z (.bl (f (.bl i))):=rfl
def Ks f i:tE f (.str i)=Z (.bl (f (.str i))):=rfl
def Kt f i:tE f (.tup i)=Z (.bl (f (.tup i))):=rfl
def Ku f i:tE f (.lst i)=Z (.bl (f (.lst i))):=rfl
def Kv f:tE f .non=Z (.bl (f .non)):=rfl
def Kw f i:tE f (pN i)=Z (.bl (f (pN i))):=rfl
def Kx s (l:oN):qr (s::l) 0=s.val:=rfl
def Ky s (l:oN) i:qr (s::l) (i+1)=qr l i:=rfl
def Kz p:(Slot.fz p).val=Z p:=rfl
def KA p:(Slot.ow p).val=Z (.lst p):=rfl
def keep(k:Bool)(ms:List Nat)(l:oN):oN:=QZ k ms l
def Ee m l:oR m l=(m l).map .rt:=rfl
def zq m l:YG m l=(m l).map .ro:=rfl
def KC:Option Slot->Option tV
 |some (.ow xs)=>Z (.ro xs)
 |some (.fz p)=>Z (.rt p)
 |_=>O
def Ef xs:KC (Z (.ow xs))=Z (.ro xs):=rfl
def Eh p:KC (Z (.fz p))=Z (.rt p):=rfl
def zr i l:YF i l=KC l[i]?:=by
 delta YF;cases l[i]? with
 |none=>rfl
 |some s=>cases s<;>rfl
def Tt(s1 s2:pW)(l:oN)(k:Bool):Option tV:=if k=Y then s1 l else s2 l
def PJ s1 s2 l:Tt s1 s2 l Y=s1 l:=rfl
def PK s1 s2 l:Tt s1 s2 l U=s2 l:=rfl
def KD t s1 s2 l:ph t s1 s2 l=(t l).bind (Tt s1 s2 l):=rfl
def KG l:pr l=Z (.nx l):=rfl
def KH l:sBk l=Z (.bk l):=rfl
def KI l:sCt l=Z (.ct l):=rfl
def Ei ms i m l:oW ms i m l=(m l).map λr=>.nx ((QZ (flat r) ms l).set i (.fz r)):=rfl
def sC ms i m l:Qs ms i m l=(m l).map λxs=>.nx ((QZ (xs.all flat) ms l).set i (.ow xs)):=rfl
def KJ(i:Nat)(l:oN)(r:PV):Option tV:=if flat r=Y then Z (.nx (l.set i (.fz r))) else O
def KL i l r:KJ i l (.int r)=Z (.nx (l.set i (.fz (.int r)))):=rfl
def Ej i f m l:vv i f m l=(qr l i).bind λx=>(m l).bind λy=>(f x y).bind (KJ i l):=rfl
def Ek i p l:oY i p l=Z (l.set i (.fz p)):=rfl
def vj i j x y l:ZQ i j (.tup [x,y]) l=Z ((l.set i (.fz x)).set j (.fz y)):=rfl
def El i j k x y z l:Sy i j k (.tup [x,y,z]) l=Z (((l.set i (.fz x)).set j (.fz y)).set k (.fz z)):=rfl
def Em(ms:List Nat)(g:PV->oN->Option oN)(m:pI)(l:oN):xn ms g m l=(m l).bind λr=>(g r (QZ (flat r) ms l)).map .nx:=rfl
def PL(ms:List Nat)(i:Nat)(l:oN)(r:PV):Option Slot->Option tV
 |some (.ow xs)=>if xs.length<qy/\(flat r || !ms.contains i)=Y then Z (.nx ((QZ (flat r) ms l).set i (.ow (xs++[r])))) else O
 |_=>O
def Zj(h:xs.length<=100000)(h2:(flat r || !ms.contains i)=Y):PL ms i l r (Z (.ow xs))=Z (.nx ((QZ (flat r) ms l).set i (.ow (xs++[r])))):=aw ⟨Wb h,h2⟩
def En ms i m l:qo ms i m l=(m l).bind λr=>PL ms i l r l[i]?:=by
 delta qo;cases l[i]? with
 |none=>cases m l<;>rfl
 |some s =>
  cases s with
  |ow xs=>rfl
  |_=>cases m l<;>rfl
def Eo ms B g b l:qv ms B g b l=(B l).bind λxs=>pQ g b xs (frz ms l):=rfl
def zt B g b l:BI B g b l=(B l).bind λxs=>pQ g b xs l:=rfl
def PN:Option PV->Slot
 |some p=>.fz p
 |none=>.un
def KN p:PN (Z p) = .fz p:=rfl
def Ep l j:vC l j=PN (qr l j):=by
 delta vC;cases qr l j<;>rfl
def Er nt l B:su nt l B=gq nt .un++l.map (vC B):=rfl
def zA l:Qw l=Z Y:=rfl
def Es m l:pE m l=(m l).bind CK:=rfl
def PP i:CK (.int i)=Z (i != 0):=rfl
def PQ i:CK (.bl i)=Z i:=rfl
def PR i:CK (.lst i)=Z (!i.isEmpty):=rfl
def PU i:CK (.tup i)=Z (!i.isEmpty):=rfl
def Et(l:oN->Option Bool)(B:oN)(x:Bool):Option Bool:=if x=Y then l B else Z U
def zB l B:Et l B Y=l B:=rfl
def KO l B:Et l B U=Z U:=rfl
def Eu t1 B l:sk t1 B l=(t1 l).bind (Et B l):=rfl
def Tu(l:oN->Option Bool)(B:oN)(x:Bool):Option Bool:=if x=Y then Z Y else l B
def PX l B:Tu l B Y=Z Y:=rfl
def G7 l B:Tu l B U=l B:=rfl
def KP t1 B l:rS t1 B l=(t1 l).bind (Tu B l):=rfl
def Ev t1 l:qb t1 l=(t1 l).map not:=rfl
def zC(l:pI)(B:oN)(k:Bool):Option PV:=if k=Y then l B else Z (.bl U)
def Ew l B:zC l B Y=l B:=rfl
def Ey l B:zC l B U=Z (.bl U):=rfl
def Ez B D l:rM B D l=(B l).bind λx=>(BF x).bind (zC D l):=rfl
def KQ(l:pI)(B:oN)(k:Bool):Option PV:=if k=Y then Z (.bl Y) else l B
def KR l B:KQ l B Y=Z (.bl Y):=rfl
def KS l B:KQ l B U=l B:=rfl
def KU B D l:Vg B D l=(B l).bind λx=>(BF x).bind (KQ D l):=rfl
def KW(B D:pI)(l:oN)(k:Bool):Option PV:=if k=Y then B l else D l
def KY l D B:KW l D B Y=l B:=rfl
def KZ D l B:KW D l B U=l B:=rfl
def EA t B D l:t9 t B D l=(t l).bind (KW B D l):=rfl
def We(g:PV->PV->Option PV)(l:pI)(B:oN)(y:PV)(k:Bool):Option PV:=if k=Y then (l B).bind λw=>g y w else Z (.bl U)
def PY g l B y:We g l B y Y=(l B).bind (g y):=rfl
def PZ g l B y:We g l B y U=Z (.bl U):=rfl
def K0 f g B D I l:IX f g B D I l=(B l).bind λx=>(D l).bind λy=>(f x y).bind λz=>(BF z).bind (We g I l y):=rfl
def K1 f m l:uC f m l=(m l).bind f:=rfl
def K2 i:rY (.int i)=Z (.int (-i)):=rfl
def K3{α:Type}(T:String)(g:PV->List PV->Option α)(q:Option (List PV))(p:PV):Option α:=if ud T p=Y then q.bind (g p) else O
def P0(g:PV->List PV->Option α) q i:K3 "int" g q (.int i)=q.bind (g (.int i)):=rfl
def mtK_s(g:PV->List PV->Option α) q i:K3 "str" g q (.str i)=q.bind (g (.str i)):=rfl
def P4(g:PV->List PV->Option α) q i:K3 "list" g q (.lst i)=q.bind (g (.lst i)):=rfl
def K4 T (g:PV->List PV->Option α) m B l:rO T g m B l=(m l).bind (K3 T g (B l)):=rfl
def EB T (g:PV->List PV->Option α) m l:C0 T g m l=(m l).bind (K3 T g (Z [])):=rfl
def K5{α:Type}(f:PV->Option Int->Option Int->Option α) m D I B:rL f m D I B=(m B).bind λx=>(D B).bind λl=>(I B).bind (f x l):=rfl
def K6 l:sj l=Z O:=rfl
def K7 m l:rA m l=(m l).bind CG:=rfl
def K8 i:CG (.int i)=Z (Z i):=rfl
def K9 xs lo l:ra (.lst xs) lo l=Z (qL xs lo l):=rfl
def EC(h:z.length<=100000) lo l:wa (.str z) lo l=Z (.str (cw z lo l)):=aw (Ya h)
def zD xs:M0 [.lst xs]=Z xs:=rfl
def zE xs:M0 [.tup xs]=Z xs:=rfl
def zF xs:Yh [.lst xs]=Z (.tup xs):=rfl
def zG xs:Yh [.tup xs]=Z (.tup xs):=rfl
theorem zH i j:xz [.int i,.int j]=Z (.int (if j<i then j else i)):=rfl
def zI(i j:Int):xy [.int i,.int j]=Z (.int (if j>i then j else i)):=rfl
def zJ(ns:List Int):xA [.lst (ns.map .int)]=Z (.int ns.sum):=by
 show(Xp (ns.map .int)).map (λns=>PV.int ns.sum)=_;rw[SE];rfl
def qC(h:a.length+b.length<=100000):o7 (.str a) (.str b)=Z (.str (a++b)):=aw (Ya h)
def uU(h:a.length+b.length<=100000):tw (.lst a) (.lst b)=Z (a++b):=aw (Ya h)
def ED b:(((if b=Y then 1 else 0):Int) != 0)=b:=by cases b<;>rfl
def EE i:isInt (.int i)=Y:=rfl
def La i:Jo (.int i)=U:=rfl
def Lb i:Jo (.bl i)=Y:=rfl
def EF i:Ou (.str i)=Y:=rfl
def EG i:xw (.tup i)=Y:=rfl
def EH i:xw (.lst i)=U:=rfl
def EI i:Ov (.lst i)=Y:=rfl
def P5 i:isN (.int i)=U:=rfl
def P6:isN .non=Y:=rfl
def P7 i:isN (.tup i)=U:=rfl
def Tv(h1:g x B=Z γ1)(h2:b γ1=Z (.nx l)):pQ g b (x::xs) B=pQ g b xs l:=by
 rw[pQ,h1,bm,h2,bm]
def zK g b l:pQ g b [] l=Z (.nx l):=rfl
def Lc:oX N 0 m []=(m (Zp N [])).bind rm:=rfl
def uV:oX N 1 m [l]=(m (Zp N [l])).bind rm:=rfl
def Ld:oX N 2 m [l,B]=(m (Zp N [l,B])).bind rm:=rfl
def Le:oX N 3 m [l,B,D]=(m (Zp N [l,B,D])).bind rm:=rfl
def Lf:oX N 4 m [l,B,D,I]=(m (Zp N [l,B,D,I])).bind rm:=rfl
def Lg:oX N 5 m [l,B,D,I,L]=(m (Zp N [l,B,D,I,L])).bind rm:=rfl
def Lh:oX N 6 m [l,B,D,I,L,M]=(m (Zp N [l,B,D,I,L,M])).bind rm:=rfl
def Li:oX N 7 m [l,B,D,I,L,M,zy]=(m (Zp N [l,B,D,I,L,M,zy])).bind rm:=rfl
def EJ:Slot->Slot
 |.ow xs=>.fz (.lst xs)
 |s=>s
def EK xs:EJ (.ow xs) = .fz (.lst xs):=rfl
def EL p:EJ (.fz p) = .fz p:=rfl
def EN:EJ .un = .un:=rfl
def EQ l:frz [] l=l:=rfl
def zL i ms l:frz (i::ms) l=frz ms (frz1 l i):=rfl
def Lj s (l:oN):frz1 (s::l) 0=EJ s::l:=by cases s<;>rfl
def Lk s (l:oN) i:frz1 (s::l) (i+1)=s::frz1 l i:=by
 delta frz1;rw[la];cases l[i]? with
 |none=>rfl
 |some t=>cases t<;>rfl
def P8 n l:mN n l=Z (pN n):=rfl
def oO(xs:List Nat):List PV:=xs.map pN
def pF xs:(oO xs).length=xs.length:=ag _
def Ll n:flat (pN n)=Y:=rfl
def tf xs:(oO xs).all flat=Y:=by
 delta oO;rw[eR,aX];exact λ_ _=>rfl
def Wf(xs:List Nat):oO xs=(xs.map λ(k:Nat)=>(k:Int)).map .int:=by delta oO;rw[aB];rfl
def zM:oO []=[]:=rfl
def Wg xs ys:oO xs++oO ys=oO (xs++ys):=by delta oO;rw[bw]
def QmR xs y:oO xs++[pN y]=oO (xs++[y]):=by delta oO;rw[bw];rfl
def Lm a b:o7 (pN a) (pN b)=Z (pN (a+b)):=by
 unfold pN;rw[tH];simp
def Ln(h:b<=a):vt (pN a) (pN b)=Z (pN (a-b)):=by
 delta pN;rw[yZ,Int.ofNat_sub h]
def ER(h:a<2^60):rJ (pN a) (pN b)=Z (pN (a*b)):=by
 grind[pN,y0]
def ES(h:b<2^60):rJ (pN a) (pN b)=Z (pN (a*b)):=by
 delta pN;rw[y3 (by lia) (by lia)];simp
def Lo(h:0<b):pz (pN a) (pN b)=Z (pN (a%b)):=by
 unfold pN;rw[uP (by omega)];simp
def ET(h:0<b):pz (.int c) (pN b)=Z (pN (c%b).toNat):=by
 delta pN;rw[uP (by lia),Int.toNat_of_nonneg (Int.emod_nonneg _ (by lia))]
def uW(h:0<b)(h2:b<2^100):sP (pN a) (pN b)=Z (pN (a/b)):=by
 grind[pN,uQ]
def EV(h:0<b)(h2:b<2^100):sP (.int c) (pN b)=Z (.int (c/b)):=by
 delta pN;rw[uQ (by lia) (by lia)]
def P9 a b:BG (pN a) (pN b)=Z (.bl (decide (a<b))):=by
 delta pN;rw[G0];simp
def Q0 a b:GC (pN a) (pN b)=Z (.bl (decide (a<=b))):=by
 delta pN;rw[G1];simp
def Q1 a b:t5 (pN a) (pN b)=Z (.bl (decide (b<a))):=by
 delta pN;rw[G2];simp
def Q2 a b:N4 (pN a) (pN b)=Z (.bl (decide (b<=a))):=by
 delta pN;rw[G3];simp
def Tw(a b:Nat):(a==(b:Int))=(a==b):=by
 rw[cf,a9,a9];exact Int.ofNat_inj
def Q3 a b:pC (pN a) (pN b)=Z (.bl (a==b)):=by
 delta pN;rw[G4,Tw]
def Q4 a b:sg (pN a) (pN b)=Z (.bl (!(a==b))):=by
 delta pN;rw[G5,Tw]
def Lp(a b:Nat):jE a b=((a&&&b)):=by
 rw[bitAnd_pp (by lia) (by lia)];simp
def Q5(a b:Nat):gY a b=((a|||b)):=by
 delta gY;rw[bitAnd_nn (by delta dA;lia) (by delta dA;lia)];delta dA;have e:∀a:Nat,(-(-(a:Int)-1)-1).toNat=a:=λa=>by lia
 rw[e,e];lia
def Lq a b:qJ (pN a) (pN b)=Z (pN (a&&&b)):=by delta pN;rw[y4,Lp]
def Q6 a b:Cw (pN a) (pN b)=Z (pN (a|||b)):=by delta pN;rw[Pt,Q5]
def Lr(h:k<=1000000):ql (pN 1) (pN k)=Z (pN (2^k)):=by
 have e:=y7 (k:=k) (by lia) (by lia);delta pN;rw[show((1:Nat):Int)=1 from rfl,e];simp
def Ls m k:Cv (pN m) (pN k)=Z (pN (m/2^k)):=by
 delta pN;rw[Kk (by omega)];simp
def um(m k:Nat):((m/2^k)&&&1 != 0)=m.testBit k:=by
 rw[Nat.testBit,Nat.shiftRight_eq_div_pow,lz]
def rT m k:(m/2^k%2==1)=m.testBit k:=by
 grind
def Lu a b:xz [pN a,pN b]=Z (pN (min a b)):=by
 grind[pN,zH]
def Lv(a b:Nat):xy [pN a,pN b]=Z (pN (max a b)):=by
 delta pN;rw[zI];congr 2;split<;>lia
def EW xs:o9 [.lst xs]=Z (pN xs.length):=rfl
def EX xs:o9 [.tup xs]=Z (pN xs.length):=rfl
def si(h:z.length<=100000):o9 [.str z]=Z (pN z.length):=aw (Ya h)
def zN(xs:List Nat):(xs.map λ(k:Nat)=>(k:Int)).sum=((xs.sum:Nat):Int):=by
 induction xs with
 |nil=>rfl
 |cons x r j=>simp only[aT,ig,j,Int.natCast_add]
def Lx(xs:List Nat):xA [.lst (oO xs)]=Z (pN xs.sum):=by
 rw[Wf,zJ,zN];rfl
def Q7(h:n<=100000):Ts (pN n)=Z (oO (ai n)):=by
 delta pN;rw[G6 (by lia) (by lia),dn];rfl
def zO m:M2 (pN m) []=Z (pN (BO m)):=Qmh m
def Q8(g:PV->List PV->Option α) q i:K3 "int" g q (pN i)=q.bind (g (pN i)):=rfl
def EY i:isInt (pN i)=Y:=rfl
def Ly i:Jo (pN i)=U:=rfl
def EZ i:xw (pN i)=U:=rfl
def Lz i:isN (pN i)=U:=rfl
def Q9 i:CK (pN i)=Z (i != 0):=by
 have:=Tw i 0;show Z (!(i==((0:Nat):Int)))=_;rw[this];rfl
def LA i:rY (pN i)=Z (.int (-i)):=rfl
def th xs (v:PV):rX (xs++[v]) (-((1:Nat)))=Z v:=wL xs v
def LB i:CG (pN i)=Z (Z (i:Int)):=rfl
def QiU(xs:List α)(i:Nat):rX xs i=xs[i]?:=by
 cases h:xs[i]? with
 |some v=>exact Cn h
 |none =>
  have:=kF.mp h;delta rX BE;rw[aw (by lia),aN (by lia)];rfl
def LC xs i:oU (.lst xs) (pN i)=xs[i]?:=QiU xs i
def LD xs i:oU (.tup xs) (pN i)=xs[i]?:=QiU xs i
def sD xs (i:Nat):(oO xs)[i]?=(xs[i]?).map pN:=by unfold oO;rw[aI]
def LF i l r:KJ i l (pN r)=Z (.nx (l.set i (.fz (pN r)))):=rfl
def LG a b:peq (pN a) (pN b)=(a==b):=by
 delta pN;have:peq (.int a) (.int b)=(a==(b:Int)):=rfl;rw[this,Tw]
def zP a:p9 (pN a)=Y:=DJ _
def Qiz xs:(oO xs).all p9=Y:=by
 delta oO;rw[eR,aX];exact λ_ _=>zP _
def zQ k xs:((oO xs).any λy=>peq y (pN k))=decide (k∈xs):=by
 delta oO;rw[gS,cf,dg];simp[LG]
def zR k xs:qK (pN k) (.lst (oO xs))=Z (.bl (decide (k∈xs))):=by
 have e:qK (pN k) (.lst (oO xs))=if p9 (pN k)=Y/\(oO xs).all p9=Y then Z (.bl ((oO xs).any λy=>peq y (pN k))) else O:=rfl;rw[e,aw ⟨zP k,Qiz xs⟩,zQ]
def zS k xs:qK (pN k) (.tup (oO xs))=Z (.bl (decide (k∈xs))):=by
 have e:qK (pN k) (.tup (oO xs))=if p9 (pN k)=Y/\(oO xs).all p9=Y then Z (.bl ((oO xs).any λy=>peq y (pN k))) else O:=rfl;rw[e,aw ⟨zP k,Qiz xs⟩,zQ]
def Tx(h:qK x y=Z (.bl b)):Zq x y=Z (.bl (!b)):=by
 unfold Zq;rw[h];rfl
def vN k xs:Zq (pN k) (.lst (oO xs))=Z (.bl (!decide (k∈xs))):=Tx (zR k xs)
def vO k xs:Zq (pN k) (.tup (oO xs))=Z (.bl (!decide (k∈xs))):=Tx (zS k xs)
def Ra{α:Type} b y xs (h:∀x∈xs,∃γ1,g (pN x) l=Z γ1/\t γ1=Z (b x)/\(b x=Y->e γ1=Z (y x))) :
  YX g t e l (oO xs)=Z ((xs.filter b).map y):=Pu pN b y xs h
def G8 y xs (h:∀x∈xs,∃γ1,g (pN x) l=Z γ1/\e γ1=Z (y x)) :
  YX g Qw e l (oO xs)=Z (xs.map y):=Qk pN y xs h
def Tz{g:PV->oN->Option oN}{e:pI}{l:oN}(y:Nat->Nat)(xs:List Nat)(h:∀x∈xs,∃γ1,g (pN x) l=Z γ1/\e γ1=Z (pN (y x))) :
  YX g Qw e l (oO xs)=Z (oO (xs.map y)):=by
 rw[G8 (λx=>pN (y x)) xs h];delta oO;rw[aB];rfl
def Rb b xs (h:∀x∈xs,∃γ1,g (pN x) l=Z γ1/\t γ1=Z (b x)/\e γ1=Z (pN x)) :
  YX g t e l (oO xs)=Z (oO (xs.filter b)):=by
 rw[Ra (α:=Nat) b pN xs λx j=>by
  obtain⟨γ1,h1,h2,h3⟩:=h x j;exact⟨γ1,h1,h2,λ_=>h3⟩]
 rfl
def zT{α B:Type}(f:α->B) xs lo l:qL (xs.map f) lo l=(qL xs lo l).map f:=by
 unfold qL;rw[ag,<-kS,<-List.map_take]
def zU{α:Type}(xs:List α)(lo l:Option Int):(qL xs lo l).length<=xs.length:=by
 delta qL;rw[cS,da];lia
def E1{α:Type}(xs:List α)(a b:Nat):qL xs (Z a) (Z b)=(xs.take b).drop a:=by
 delta qL;rw[HT.sIx_nat,HT.sIx_nat];apply eO;intro i;rw[m8,jp,jp,m8];by_cases h:min a xs.length+i<xs.length
 .have j:min a xs.length=a:=by lia
  rw[j];by_cases h2:i<min b xs.length-a
  .rw[aw h2,aw (by lia)]
  .rw[aN h2,aN (by lia)]
 .have l:xs[min a xs.length+i]?=O:=bg (by lia);rw[l];by_cases h3:a+i<b
  .rw[aw h3,bg (by lia)];split<;>rfl
  .split<;>rfl
def E3{α:Type}(xs:List α)(b:Nat):qL xs O (Z b)=xs.take b:=by
 delta qL;rw[HT.sIx_nat,HT.sIx_none];simp
def Xi{α:Type}(xs:List α)(a:Nat):qL xs (Z a) O=xs.drop a:=by
 delta qL;rw[HT.sIx_nat,HT.sIx_none];rw[di (by rw[da];lia)];by_cases h:a<=xs.length
 .rw[j8 h]
 .rw[Nat.min_eq_right (by lia),jM,List.drop_of_length_le (by lia)]
def QmA s r:Xp (.str s::r)=O:=rfl
def E4(h:ss.length<64):GH [.lst (ss.map .str)]=Z ((QA ss).map .str):=by
 cases ss with
 |nil=>simp[GH,Xp,Xk,QA]
 |cons s r =>
  show(match Xp (.str s::r.map .str) with
   |some ns=>if ns.length<64 then Z ((Xk ns).map PV.int) else O
   | none=>match strs? ((s::r).map .str) with
    |some ss=>if ss.length<64 then Z ((QA ss).map PV.str) else O
    |none=>O)=_
  rw[QmA,strs?_map];exact aw h
def E5(h:ss.length<64):GH [.lst (ss.map .int)]=Z ((Xk ss).map .int):=by
 show(match Xp (ss.map .int) with
   |some ns=>if ns.length<64 then Z ((Xk ns).map PV.int) else O
   | none=>match strs? (ss.map .int) with
    |some ss=>if ss.length<64 then Z ((QA ss).map PV.str) else O
    |none=>O)=_
 rw[SE];exact aw h
theorem QlR ss:(QA ss).length=ss.length:=(Qj ss).length_eq
def Qmy(ss:List Int):(Xk ss).length=ss.length:=(Yd ss).length_eq
def Qiy{ss:List Str}(h:∀s∈ss,aA s=Y):(ss.map PV.str).all p9=Y:=by
 rw[eR,aX];exact λs hs=>Kl (h s hs)
def zV a b:peq (.str a) (.str b)=(a==b):=rfl
def zW{ss:List Str}(h:aA s=Y)(hs:∀s∈ss,aA s=Y):qK (.str s) (.lst (ss.map .str))=Z (.bl (ss.any (·==s))):=by
 have e:qK (.str s) (.lst (ss.map .str))=if p9 (.str s)=Y/\(ss.map PV.str).all p9=Y then Z (.bl ((ss.map PV.str).any λy=>peq y (.str s))) else O:=rfl;rw[e,aw ⟨Kl h,Qiy hs⟩,gS];congr 3
def Na{ss:List Str}(h:aA s=Y)(hs:∀s∈ss,aA s=Y):qK (.str s) (.tup (ss.map .str))=Z (.bl (ss.any (·==s))):=by
 have e:qK (.str s) (.tup (ss.map .str))=if p9 (.str s)=Y/\(ss.map PV.str).all p9=Y then Z (.bl ((ss.map PV.str).any λy=>peq y (.str s))) else O:=rfl;rw[e,aw ⟨Kl h,Qiy hs⟩,gS];congr 3
def Wh{ss:List Str}(h:aA s=Y)(hs:∀s∈ss,aA s=Y):Zq (.str s) (.lst (ss.map .str))=Z (.bl (!ss.any (·==s))):=Tx (zW h hs)
def Wi{ss:List Str}(h:aA s=Y)(hs:∀s∈ss,aA s=Y):Zq (.str s) (.tup (ss.map .str))=Z (.bl (!ss.any (·==s))):=Tx (Na h hs)
theorem Xo(l:aA a=Y)(B:aA b=Y):pC (.str a) (.str b)=Z (.bl (a==b)):=by rw[Wa (Kl l) (Kl B),zV]
def Rc(l:aA a=Y)(B:aA b=Y):sg (.str a) (.str b)=Z (.bl (!(a==b))):=by rw[y8 (Kl l) (Kl B),zV]
def tO(ns:List Nat):(ns.map λ(k:Nat)=>PV.int k).all flat=Y:=by simp[flat]
def Qm(a b:Str):(a++b).length=a.length+b.length:=by
 show(a.cps++b.cps).size=_;rw[jH];rfl
def Nb(h1:aA a=Y)(h2:aA b=Y):aA (a++b)=Y:=by
 delta aA at *;show(a.cps++b.cps).all _=Y;rw[Array.all_append,h1,h2];rfl
theorem QfY(a b c:Str):a++b++c=a++(b++c):=by
 show(⟨a.cps++b.cps++c.cps⟩:Str)=⟨a.cps++(b.cps++c.cps)⟩;rw[jr]
def XX l:aL l [] = "":=by
 rfl
theorem QF l x:aL l [x]=x:=by
 rfl
theorem Ql l x y r:aL l (x::y::r)=x++l++aL l (y::r):=by
 delta aL;rw[oh,oh];rfl
def zX:aA ""=Y:=by decide+kernel
theorem Rf l (hs:aA l=Y):∀ss ,(∀s∈ss,aA s=Y)->aA (aL l ss)=Y
 |[],_=>by exact zX
 |[x],h=>by exact h x (by simp)
 |x::y::r,h=>by
  rw[Ql];exact Nb (Nb (h x (by simp)) hs) (Rf l hs (y::r) λs hs=>h s (ay _ hs))
def Qv l ss:(aL l ss).length=(ss.map cE).sum+(ss.length-1)*l.length:=by
 unfold aL;exact PySem.size_glued l ss
def Xg(ss:List Str) b (h:∀s∈ss,s.length<=b):(ss.map cE).sum<=ss.length*b:=by
 induction ss with
 |nil=>simp
 |cons x l j =>
  have h1:=j λk t=>h k (ay _ t);have h2:=h x (by simp);simp only[aT,ig,aU,Nat.succ_mul];lia
def Qjh l u n:(bF l u 1 n).length<=n:=by
 delta bF PySem.sliceRange;have h:∀a b:Int,0<=a->b<=n->(if a<b then (b-a+1-1)/1 else 0).toNat<=n:=λa b h1 h2=>by split<;>lia
 simp only[ag,ao,kd,gt_iff_lt,iI];exact h _ _ (by cases l;exact Int.le_refl _;exact Int.le_max_left _ _) (by cases u;exact Int.le_refl _;exact Int.max_le.2 ⟨nh _,Int.min_le_right _ _⟩)
def Qfz z lo l:(cw z lo l).length<=z.length:=by
 delta cw;split
 .exact au _
 .have h1:=Qjh lo l z.length;have h2:=ij (λx=>z.cps[x]?) (bF lo l 1 z.length);show((List.filterMap _ _).toArray).size<=_;rw[aP];lia
def EVc:=(ac (ac (ac (ac (ac (ac (ac @P8 (ac @pF @tf)) (ac (ac @Ll @Lm) (ac @Ln @ER))) (ac (ac @ES (ac @Lo @ET)) (ac (ac @uW @EV) (ac @P9 @Q0)))) (ac (ac (ac @Q1 (ac @Q2 @Q3)) (ac (ac @Q4 @Lq) (ac @Q6 @Lr))) (ac (ac (ac @Ls @um) (ac @rT @Lu)) (ac (ac @Lv @Lx) (ac @Q7 @Q8))))) (ac (ac (ac (ac @EY (ac @Ly @EZ)) (ac (ac @Lz @Q9) (ac @LA @th))) (ac (ac (ac @LB @LC) (ac @LD @sD)) (ac (ac @LF @zR) (ac @zS @vN)))) (ac (ac (ac @vO (ac @Lc @uV)) (ac (ac @Ld @Le) (ac @Lf @Lg))) (ac (ac (ac @Lh @Li) (ac @rq @tN)) (ac (ac @tL @DU) (ac @DV @DW)))))) (ac (ac (ac (ac (ac @DX (ac @Ei @sC)) (ac (ac @Ee @zq) (ac @zr @Ef))) (ac (ac @Eh (ac @KD @PJ)) (ac (ac @PK @KG) (ac @KH @KI)))) (ac (ac (ac @D3 (ac @D4 @PD)) (ac (ac @zm @D5) (ac @D7 @D6))) (ac (ac (ac @D9 @D8) (ac @zo @Ea)) (ac (ac @Eb @uT) (ac @Ec @Kp))))) (ac (ac (ac (ac @Kq (ac @Ks @Kt)) (ac (ac @Ku @Kv) (ac @Kw @Kx))) (ac (ac (ac @Ky @Kz) (ac @KA @tH)) (ac (ac @yZ @G0) (ac @G1 @G2)))) (ac (ac (ac @G3 (ac @G4 @G5)) (ac (ac @EW @EX) (ac @DM @DN))) (ac (ac (ac @uS @uk) (ac @y9 @DL)) (ac (ac @ze @zf) (ac @zi @zj))))))) (ac (ac (ac (ac (ac (ac @DY (ac @DZ @D0)) (ac (ac @Eu @zB) (ac @KO @KP))) (ac (ac @PX (ac @G7 @Ev)) (ac (ac @Ez @Ew) (ac @Ey @KU)))) (ac (ac (ac @KR (ac @KS @EA)) (ac (ac @KY @KZ) (ac @K0 @PY))) (ac (ac (ac @PZ @K1) (ac @K2 @EB)) (ac (ac @K4 @P0) (ac @mtK_s @P4))))) (ac (ac (ac (ac @zt (ac @Eo @zk)) (ac (ac @qB @DO) (ac @G6 @DP))) (ac (ac (ac @Px @DQ) (ac @Py @DR)) (ac (ac @Pz @PB) (ac @vi @DS)))) (ac (ac (ac @Ko (ac @DT @Er)) (ac (ac @Ep @KN) (ac @Ek @vj))) (ac (ac (ac @El @Es) (ac @PP @PQ)) (ac (ac @PR @PU) (ac @zA @uP)))))) (ac (ac (ac (ac (ac @uQ (ac @y0 @y3)) (ac (ac @zO @ED) (ac @K5 @K6))) (ac (ac (ac @K7 @K8) (ac @K9 @EC)) (ac (ac @zD @zE) (ac @zF @zG)))) (ac (ac (ac @zH (ac @zI @zJ)) (ac (ac @si @qC) (ac @uU @EE))) (ac (ac (ac @La @Lb) (ac @EF @EG)) (ac (ac @EH @EI) (ac @P5 @P6))))) (ac (ac (ac (ac @P7 (ac @DK @uR)) (ac (ac @zK @EQ) (ac @zL @Lj))) (ac (ac (ac @Lk @EK) (ac @EL @EN)) (ac (ac @Ej @KL) (ac @Em @En)))) (ac (ac (ac @tI (ac @tJ @tO)) (ac (ac @zT @Nat.not_lt_zero) (ac @decide_true @decide_false))) (ac (ac (ac @jn @Bool.not_false) (ac @Bool.true_or @Bool.false_or)) (ac (ac @jF @Bool.or_false) (ac @fU @Bool.false_and))))))))
end L2.PM
set_option maxHeartbeats 4000000
namespace DH
open PySem PySem.Spec PyProof.Rows L2 L2.PM
def XR:=(oM (oW [2] 2 (oJ pz (oJ rJ (nP 2) (mN 48271)) (mN 2147483647)))
 (qo [2] 3 (oJ sP (nP 2) (mN 13))))
def Zh:=oX 5 2 (oM (oW [0] 2 (oJ pz (oJ rJ (oJ o7 (oJ pz (nP 0) (mN 2147483629)) (mN 1)) (mN 1103515245)) (mN 2147483647)))
 (oM (Qs [] 3 (pD oK))
 (oM (BI (rk (nP 1)) (oY 4) XR)
 (YF 3))))
def XQ:=(oM (oW [0] 0 (oJ pz (oJ o7 (oJ rJ (nP 0) (mN 69621)) (mN 1)) (mN 2147483647)))
 (oW [3,2,0] 3 (oJ o7 (nP 3) (oJ oU (nP 2) (oJ pz (oJ sP (nP 0) (mN 17)) (mN 26))))))
def ZH:=oX 5 2 (oM (oW [] 2 (mC (.str "abcdefghijklmnopqrstuvwxyz")))
 (oM (oW [] 3 (mC (.str "")))
 (oM (BI (rk (nP 1)) (oY 4) XQ)
 (YF 3))))
def Xc:=(oM (oW [4,8,4,8] 9 (Qb ZH (Qa (oJ oU (nP 4) (oJ o7 (mN 3) (nP 8))) (Qa (oJ o7 (mN 1) (oJ pz (oJ sP (oJ oU (nP 4) (oJ o7 (mN 4) (nP 8))) (mN 5)) (mN 4))) oK))))
 (oM (ph (oQ (oJ BG (oJ pz (oJ oU (nP 4) (mN 20)) (mN 4)) (mN 2))) (oM (oW [2,4,8,4] 10 (oJ oU (nP 2) (oJ pz (oJ o7 (oJ oU (nP 4) (mN 21)) (oJ rJ (nP 8) (oJ oU (o6 (pD (Qa (mN 1) (Qa (mN 3) (Qa (mN 5) (Qa (mN 7) (Qa (mN 9) (Qa (mN 11) oK)))))))) (oJ pz (oJ oU (nP 4) (mN 22)) (mN 6))))) (mN 26))))
 (oW [5,6,10,5,6] 9 (oJ o7 (oJ o7 (rL wa (nP 5) sj (rA (nP 6))) (nP 10)) (rL wa (nP 5) (rA (oJ o7 (nP 6) (mN 1))) sj)))) pr)
 (oM (ph (oQ (oJ pC (oJ pz (oJ oU (nP 4) (mN 20)) (mN 4)) (mN 2))) (oW [3,4,8] 9 (oJ oU (nP 3) (oJ pz (oJ o7 (oJ oU (nP 4) (mN 23)) (oJ rJ (mN 5) (nP 8))) (mN 12)))) pr)
 (oM (ph (oQ (oJ qK (nP 9) (pV (Qa (mC (.str "guess")) (Qa (mC (.str "unless")) (Qa (mC (.str "if")) oK)))))) (oW [9] 9 (oJ o7 (nP 9) (mC (.str "a")))) pr)
 (ph (oQ (oJ Zq (nP 9) (nP 7))) (qo [9] 7 (nP 9)) pr)))))
def Yp:=oX 11 2 (oM (oW [] 2 (mC (.str "abcdefghijklmnopqrstuvwxyz")))
 (oM (Qs [] 3 (pD (Qa (mC (.str "by")) (Qa (mC (.str "lot")) (Qa (mC (.str "why")) (Qa (mC (.str "tell")) (Qa (mC (.str "drop")) (Qa (mC (.str "book")) (Qa (mC (.str "ranks")) (Qa (mC (.str "camps")) (Qa (mC (.str "flaw")) (Qa (mC (.str "stands")) (Qa (mC (.str "yes")) (Qa (mC (.str "no")) oK))))))))))))))
 (oM (oW [0] 4 (Qb Zh (Qa (nP 0) (Qa (mN 26) oK))))
 (oM (oW [4,4] 5 (Qb ZH (Qa (oJ oU (nP 4) (mN 0)) (Qa (oJ o7 (mN 1) (oJ pz (oJ oU (nP 4) (mN 1)) (mN 12))) oK))))
 (oM (oW [4,5] 6 (oJ pz (oJ oU (nP 4) (mN 2)) (Qb o9 (Qa (nP 5) oK))))
 (oM (Qs [] 7 (pD oK))
 (oM (BI (rk (nP 1)) (oY 8) Xc)
 (YF 7))))))))
def ZY:=(ph (rS (sk (oQ (oJ pC (oJ pz (oJ oU (nP 0) (mN 6)) (mN 4)) (mN 1))) (oQ (oJ BG (oJ o7 (nP 5) (mN 1)) (nP 2)))) (oQ (oJ pC (oJ pz (oJ oU (nP 0) (mN 6)) (mN 4)) (mN 2)))) (qo [3,5,3,1,5,2] 4 (pV (Qa (mC (.str "rule")) (Qa (oJ oU (nP 3) (oJ pz (nP 5) (Qb o9 (Qa (nP 3) oK)))) (Qa (pV (Qa (oJ oU (nP 1) (oJ pz (oJ o7 (nP 5) (mN 1)) (nP 2))) oK)) oK))))) pr)
def ZX:=(oM (oW [1,0,5,7,1] 8 (oJ oU (nP 1) (oJ pz (oJ oU (nP 0) (oJ o7 (oJ o7 (mN 16) (nP 5)) (oJ rJ (nP 7) (mN 5)))) (Qb o9 (Qa (nP 1) oK)))))
 (ph (oQ (oJ Zq (nP 8) (nP 6))) (qo [8] 6 (nP 8)) pr))
def ZW:=(oM (Qs [] 6 (pD oK))
 (oM (BI (rk (oJ pz (oJ oU (nP 0) (oJ o7 (mN 8) (nP 5))) (mN 4))) (oY 7) ZX)
 (qo [3,0,5,3,6] 4 (pV (Qa (mC (.str "rule")) (Qa (oJ oU (nP 3) (oJ pz (oJ oU (nP 0) (oJ o7 (mN 32) (nP 5))) (Qb o9 (Qa (nP 3) oK)))) (Qa (Qb Yh (Qa (nP 6) oK)) oK)))))))
def ZV:=(ph (oQ (oJ pC (Qb o9 (Qa (o6 (Qo (pG (nP 9)) 1 [10] (oY 0) (sk (oQ (oJ pC (oJ oU (nP 0) (mN 1)) (oJ oU (nP 1) (mN 1)))) (oQ (oJ pC (o6 (Qb M8 (Qa (oJ oU (nP 0) (mN 2)) oK))) (o6 (Qb M8 (Qa (oJ oU (nP 1) (mN 2)) oK)))))) (nP 0))) oK)) (mN 0))) (qo [10] 9 (nP 10)) pr)
def QaJ:=(oM (Qs [1,2] 3 (rL ra (nP 1) (rA (nP 2)) sj))
 (oM (Qs [] 4 (pD oK))
 (oM (ph (oQ (oJ pC (Qb o9 (Qa (nP 3) oK)) (mN 0))) (YG (pD oK)) pr)
 (oM (BI (rk (nP 2)) (oY 5) ZY)
 (oM (BI (rk (oJ pz (oJ oU (nP 0) (mN 7)) (mN 9))) (oY 5) ZW)
 (oM (Qs [] 9 (pD oK))
 (oM (qv [4] (pG (nP 4)) (oY 10) ZV)
 (YF 9))))))))
def Yo:List PV->Option (List PV):=ub 11 3 QaJ
def Zv:=oX 2 2 (oM (ph (oQ (oJ BG (nP 1) (Qb o9 (Qa (nP 0) oK)))) (oR (oJ oU (nP 0) (nP 1))) pr)
 (oR (mN 0)))
def ZO:=oX 1 1 (oM (ph (oQ (oJ pC (oJ oU (nP 0) (mN 0)) (mC (.str "guess")))) (oR (oJ o7 (oJ o7 (oJ o7 (mC (.str "guess ")) (oJ oU (nP 0) (mN 1))) (mC (.str " unless "))) (oJ oU (nP 0) (mN 2)))) pr)
 (oM (ph (oQ (oJ pC (Qb o9 (Qa (oJ oU (nP 0) (mN 2)) oK)) (mN 0))) (oR (oJ oU (nP 0) (mN 1))) pr)
 (oR (oJ o7 (oJ o7 (oJ oU (nP 0) (mN 1)) (mC (.str " if "))) (rO "str" OL (mC (.str " ")) (Qa (oJ oU (nP 0) (mN 2)) oK))))))
def Zw:=(oM (oW [2,1,6,2] 7 (oJ oU (nP 2) (oJ pz (oJ oU (nP 1) (oJ o7 (mN 2) (nP 6))) (Qb o9 (Qa (nP 2) oK)))))
 (oM (ph (sk (oQ (oJ t5 (Qb o9 (Qa (nP 5) oK)) (mN 0))) (rS (oQ (oJ pC (oJ pz (oJ oU (nP 1) (mN 6)) (mN 4)) (mN 1))) (oQ (oJ pC (oJ pz (oJ oU (nP 1) (mN 6)) (mN 4)) (mN 2))))) (oW [5,6,5] 7 (oJ oU (nP 5) (oJ pz (nP 6) (Qb o9 (Qa (nP 5) oK))))) pr)
 (uH [2,6,7] 4 (oJ pz (oJ oU (nP 1) (oJ o7 (mN 44) (nP 6))) (oJ o7 (Qb o9 (Qa (nP 4) oK)) (mN 1))) (pV (Qa (mC (.str "guess")) (Qa (oJ oU (nP 2) (nP 6)) (Qa (nP 7) oK)))))))
def YJ:=oX 8 1 (oM (oW [0] 1 (Qb Zh (Qa (Qb Zv (Qa (nP 0) (Qa (mN 1) oK))) (Qa (mN 60) oK))))
 (oM (oW [0,1] 2 (Qb Yp (Qa (Qb Zv (Qa (nP 0) (Qa (mN 0) oK))) (Qa (oJ o7 (mN 1) (oJ pz (oJ oU (nP 1) (mN 0)) (mN 9))) oK))))
 (oM (oW [1,2] 3 (Qb xz (Qa (oJ pz (oJ oU (nP 1) (mN 1)) (mN 5)) (Qa (oJ vt (Qb o9 (Qa (nP 2) oK)) (mN 1)) oK))))
 (oM (ph (oQ (oJ pC (oJ pz (oJ oU (nP 1) (mN 52)) (mN 8)) (mN 1))) (oM (Qs [2] 2 (rL ra (nP 2) sj (rA (mN 4))))
 (oW [2] 3 (Qb o9 (Qa (nP 2) oK)))) pr)
 (oM (Qs [1,2,3] 4 (Qb Yo (Qa (nP 1) (Qa (nP 2) (Qa (nP 3) oK)))))
 (oM (Qs [2,3] 5 (rL ra (nP 2) (rA (nP 3)) sj))
 (oM (BI (rk (nP 3)) (oY 6) Zw)
 (oR (rO "str" xB (mC (.str "\n")) (Qa (o6 (Qo (pG (nP 4)) 1 [] (oY 0) Qw (Qb ZO (Qa (nP 0) oK)))) oK))))))))))
def Zd:=oX 1 1 (oM (ph (rS (oQ (oJ qK (nP 0) (mC (.tup ((["guess","unless","if"]:List Str).map .str))))) (qb (oQ (IX GC GC (mN 1) (Qb o9 (Qa (nP 0) oK)) (mN 12))))) (oR (mC (.bl U))) pr)
 (oR (Qb M4 (Qa (o6 (Qo (JJ (nP 0)) 1 [] (oY 0) Qw (IX De De (mC (.str "a")) (nP 0) (mC (.str "z"))))) oK))))
def QH:=oX 1 1 (oM (ph (rS (oQ (oJ sg (Qb o9 (Qa (nP 0) oK)) (mN 4))) (rS (oQ (oJ sg (oJ oU (nP 0) (mN 0)) (mC (.str "guess")))) (oQ (oJ sg (oJ oU (nP 0) (mN 2)) (mC (.str "unless")))))) (oR (mC (.bl U))) pr)
 (oR (rM (Qb Zd (Qa (oJ oU (nP 0) (mN 1)) oK)) (Qb Zd (Qa (oJ oU (nP 0) (mN 3)) oK)))))
def QU:=oX 1 1 (oM (ph (oQ (oJ pC (Qb o9 (Qa (nP 0) oK)) (mN 1))) (oR (Qb Zd (Qa (oJ oU (nP 0) (mN 0)) oK))) pr)
 (oM (ph (rS (oQ (oJ pC (Qb o9 (Qa (nP 0) oK)) (mN 2))) (oQ (oJ sg (oJ oU (nP 0) (mN 1)) (mC (.str "if"))))) (oR (mC (.bl U))) pr)
 (oR (Qb M4 (Qa (o6 (Qo (pG (o6 (oJ tw (o6 (rL ra (nP 0) sj (rA (mN 1)))) (o6 (rL ra (nP 0) (rA (mN 2)) sj))))) 1 [] (oY 0) Qw (Qb Zd (Qa (nP 0) oK)))) oK)))))
def d_read_row:=(oM (Qs [0] 2 (rO "str" Yz (nP 0) (Qa (mC (.str " ")) oK)))
 (oM (ph (pE (Qb QH (Qa (nP 2) oK))) (oR (pV (Qa (mC (.str "guess")) (Qa (oJ oU (nP 2) (mN 1)) (Qa (oJ oU (nP 2) (mN 3)) oK))))) pr)
 (oM (ph (qb (pE (Qb QU (Qa (nP 2) oK)))) v9 pr)
 (oM (oW [2] 3 (Qb Yh (Qa (o6 (rL ra (nP 2) (rA (mN 2)) sj)) oK)))
 (oM (ph (oQ (oJ t5 (Qb o9 (Qa (nP 3) oK)) (mN 6))) v9 pr)
 (oM (ph (oQ (oJ BG (Qb SW (Qa (nP 3) oK)) (Qb o9 (Qa (nP 3) oK)))) v9 pr)
 (oR (pV (Qa (mC (.str "rule")) (Qa (oJ oU (nP 2) (mN 0)) (Qa (nP 3) oK)))))))))))
def QV:List PV->Option PV:=oX 4 2 d_read_row
def QT:=oX 2 2 (YG (Qo (pG (nP 0)) 1 [1] (oY 0) (oQ (oJ pC (oJ oU (nP 0) (mN 0)) (nP 1))) (nP 0)))
def Wj:=(oM (qo [2] 1 (oJ oU (nP 2) (mN 1)))
 (yM [2,2,2] 1 (t9 (oQ (oJ pC (oJ oU (nP 2) (mN 0)) (mC (.str "guess")))) (o6 (pD (Qa (oJ oU (nP 2) (mN 2)) oK))) (oJ oU (nP 2) (mN 2)))))
def Xu:=oX 3 1 (oM (Qs [] 1 (pD oK))
 (oM (qv [0] (pG (nP 0)) (oY 2) Wj)
 (YF 1)))
def ZL:=oX 1 1 (oM (ph (rS (oQ (oJ t5 (Qb o9 (Qa (Qb QT (Qa (nP 0) (Qa (mC (.str "guess")) oK))) oK)) (mN 8))) (oQ (oJ t5 (Qb o9 (Qa (Qb QT (Qa (nP 0) (Qa (mC (.str "rule")) oK))) oK)) (mN 40)))) (oR (mC (.bl Y))) pr)
 (oR (oJ t5 (Qb Ti (Qa (Qb Xu (Qa (nP 0) oK)) oK)) (mN 30))))
def Yf:=oX 1 1 (oM (ph (oQ (oJ pC (oJ oU (nP 0) (mN 0)) (mC (.str "guess")))) (oR (pV (Qa (mC (.str "guess")) (Qa (oJ oU (nP 0) (mN 1)) oK)))) pr)
 (oR (pV (Qa (mC (.str "rule")) (Qa (oJ oU (nP 0) (mN 1)) (Qa (Qb Yh (Qa (o6 (Qb M8 (Qa (oJ oU (nP 0) (mN 2)) oK))) oK)) oK))))))
def Wk:=(oM (oW [3,2] 4 (Qb QV (Qa (nP 3) (Qa (nP 2) oK))))
 (oM (ph (oQ (oJ qK (Qb Yf (Qa (nP 4) oK)) (o6 (Qo (pG (nP 1)) 1 [] (oY 0) Qw (Qb Yf (Qa (nP 0) oK)))))) v9 pr)
 (oM (qo [4] 1 (nP 4))
 (ph (pE (Qb ZL (Qa (nP 1) oK))) v9 pr))))
def XG:=oX 5 1 (oM (Qs [] 1 (pD oK))
 (oM (qv [0] (Qb Jz (Qa (nP 0) oK)) (ZQ 2 3) Wk)
 (YF 1)))
def YC:=(ph (sk (oQ (oJ pC (oJ oU (nP 3) (mN 0)) (mC (.str "rule")))) (oQ (oJ qK (oJ oU (nP 3) (mN 1)) (nP 1)))) v9 pr)
def ZR:=oX 4 1 (oM (Qs [0] 1 (Qo (pG (Qb QT (Qa (nP 0) (Qa (mC (.str "guess")) oK)))) 1 [] (oY 0) Qw (oJ oU (nP 0) (mN 1))))
 (qv [0] (Qb Jz (Qa (nP 0) oK)) (ZQ 2 3) YC))
def TB:=oX 2 1 (oM (Qs [0] 1 (Qo (pG (Qb QT (Qa (nP 0) (Qa (mC (.str "guess")) oK)))) 1 [] (oY 0) Qw (oJ oU (nP 0) (mN 1))))
 (oR (Qb Yh (Qa (o6 (oJ tw (o6 (Qb GH (Qa (nP 1) oK))) (o6 (VQ (Qa (Qb Xu (Qa (nP 0) oK)) oK) (Qa (nP 1) oK))))) oK))))
def ZS:=oX 3 2 (oM (Qs [1,0] 2 (Qb GH (Qa (o6 (Qo (xC (oJ oU (nP 1) (mN 2))) 1 [0] (oY 0) Qw (rQ ZF (nP 1) (Qa (nP 0) oK)))) oK)))
 (oR (pV (Qa (rQ ZF (nP 0) (Qa (oJ oU (nP 1) (mN 1)) oK)) (Qa (Qb Yh (Qa (nP 2) oK)) oK)))))
def ZT:=oX 5 2 (oM (Qs [1] 2 (Qb To (Qa (Qb QT (Qa (nP 1) (Qa (mC (.str "guess")) oK))) oK)))
 (oM (oW [2,0] 3 (Qb Yh (Qa (o6 (Qo (pG (nP 2)) 1 [0] (oY 0) Qw (rQ ZF (nP 1) (Qa (oJ oU (nP 0) (mN 2)) oK)))) oK)))
 (oM (oW [1,0] 4 (Qb Yh (Qa (o6 (Qo (pG (Qb QT (Qa (nP 1) (Qa (mC (.str "rule")) oK)))) 1 [0] (oY 0) Qw (Qb ZS (Qa (nP 1) (Qa (nP 0) oK))))) oK)))
 (oR (pV (Qa (Qb o9 (Qa (nP 0) oK)) (Qa (nP 3) (Qa (nP 4) oK))))))))
def Zg:=oX 3 1 (oM (oW [0] 1 (Qb XG (Qa (nP 0) oK)))
 (oM (vJ [1] (Qb ZR (Qa (nP 1) oK)))
 (oM (oW [1] 2 (Qb TB (Qa (nP 1) oK)))
 (oR (pV (Qa (nP 2) (Qa (Qb ZT (Qa (nP 2) (Qa (nP 1) oK))) oK)))))))
def ZE:=oX 1 1 (oR (t9 (pE (nP 0)) (o6 (rO "str" Yz (nP 0) (Qa (mC (.str "\n")) oK))) (o6 (pD oK))))
def YT:=oX 1 1 (oR (Qb Zg (Qa (Qb ZE (Qa (nP 0) oK)) oK)))
def XJ:=qA 3 2 (rZ (OR 0 (oW [1] 2 (Qb Zg (Qa (nP 1) oK))))
 (rZ (vh [1] "lines" (nP 1))
 (rZ (vh [2] "names" (oJ oU (nP 2) (mN 0)))
 (vh [2] "book" (oJ oU (nP 2) (mN 1))))))
def Zl:=qA 2 2 (OU 0 [1] (Ta "-" "keep") XJ (Qa (Qb ZE (Qa (nP 1) oK)) oK))
def TC:=oX 2 1 (oM (oW [0] 1 (oJ vt (Qb o9 (Qa (nP 0) oK)) (mN 1)))
 (oM (ph (oQ (oJ pC (oJ oU (nP 0) (mN 0)) (mC (.str "why")))) (oR (Vg (oJ pC (nP 1) (mN 1)) (rM (oJ t5 (nP 1) (mN 2)) (oJ pC (oJ oU (nP 0) (mN 2)) (mC (.str "by")))))) pr)
 (oM (ph (oQ (oJ pC (oJ oU (nP 0) (mN 0)) (mC (.str "lot")))) (oR (oJ pC (nP 1) (mN 1))) pr)
 (oM (ph (oQ (oJ qK (oJ oU (nP 0) (mN 0)) (pV (Qa (mC (.str "ranks")) (Qa (mC (.str "book")) oK))))) (oR (oJ pC (nP 1) (mN 0))) pr)
 (oR (oJ qK (oJ oU (nP 0) (mN 0)) (pV (Qa (mC (.str "flaw")) (Qa (mC (.str "camps")) oK)))))))))
def YI:=oX 1 1 (ph (rS (qb (pE (Qb TC (Qa (nP 0) oK)))) (qb (pE (Qb M4 (Qa (o6 (Qo (pG (o6 (rL ra (nP 0) (rA (mN 1)) sj))) 1 [] (oY 0) Qw (Qb Zd (Qa (nP 0) oK)))) oK))))) v9 pr)
def QL:=oX 1 1 (oM (ph (oQ (oJ pC (oJ oU (nP 0) (mN 0)) (mC (.str "why")))) (YG (rL ra (nP 0) (rA (mN 3)) sj)) pr)
 (oR (t9 (oQ (oJ qK (oJ oU (nP 0) (mN 0)) (pV (Qa (mC (.str "flaw")) (Qa (mC (.str "camps")) oK))))) (o6 (rL ra (nP 0) (rA (mN 1)) sj)) (o6 (pD oK)))))
def ZM:=oX 1 1 (oR (t9 (oQ (oJ qK (oJ oU (nP 0) (mN 0)) (pV (Qa (mC (.str "lot")) (Qa (mC (.str "why")) oK))))) (o6 (rL ra (nP 0) (rA (mN 1)) (rA (mN 2)))) (o6 (pD oK))))
def Xb:=(ph (oQ (oJ Zq (nP 3) (nP 0))) v9 pr)
def Xa:=(ph (oQ (oJ N4 (rQ ZF (nP 0) (Qa (nP 3) oK)) (Qb o9 (Qa (oJ oU (nP 1) (mN 1)) oK)))) v9 pr)
def Ym:=oX 4 3 (oM (qv [2,2] (pG (o6 (oJ tw (Qb ZM (Qa (nP 2) oK)) (Qb QL (Qa (nP 2) oK))))) (oY 3) Xb)
 (qv [2] (pG (Qb QL (Qa (nP 2) oK))) (oY 3) Xa))
def TF:=(vv 1 Cw (oJ ql (mN 1) (nP 2)))
def Zc:=oX 3 1 (oM (oW [] 1 (mN 0))
 (oM (qv [0] (xC (nP 0)) (oY 2) TF)
 (YF 1)))
def Nc:=oX 1 1 (YG (Qo (rk (C0 "int" M2 (nP 0))) 1 [0] (oY 0) (pE (oJ qJ (oJ Cv (nP 1) (nP 0)) (mN 1))) (nP 0)))
def QC:=oX 2 2 (oR (oJ o7 (oJ o7 (mC (.str "{")) (rO "str" xB (mC (.str " ")) (Qa (o6 (Qo (pG (Qb Nc (Qa (nP 1) oK))) 1 [0] (oY 0) Qw (oJ oU (nP 1) (nP 0)))) oK))) (mC (.str "}"))))
def Zk(C:Nat->Addr):=oX 2 2 (YG (pD (Qa (oJ o7 (oJ o7 (yp [C 1,C 2,C 3,C 4] "name" (nP 0)) (mC (.str " "))) (Qb QC (Qa (nP 1) (Qa (yp [C 1,C 2,C 3,C 4] "reason" (nP 0)) oK)))) oK)))
def Yr:=oX 3 3 (oR (oJ o7 (oJ o7 (Qb QC (Qa (nP 0) (Qa (nP 1) oK))) (mC (.str " "))) (Qb QC (Qa (nP 0) (Qa (nP 2) oK)))))
def Yu(C:Nat->Addr):=oX 2 2 (YG (oJ tw (o6 (pD (Qa (yp [C 1,C 2,C 3,C 4] "name" (nP 0)) oK))) (o6 (Qo (qO (yp [C 1,C 2,C 3,C 4] "pairs" (nP 0))) 2 [1] (ZQ 0 1) Qw (Qb Yr (Qa (nP 2) (Qa (nP 0) (Qa (nP 1) oK))))))))
def ZP(C:Nat->Addr):=oX 2 2 (YG (pD (Qa (yp [C 1,C 2,C 3,C 4] "name" (nP 0)) (Qa (Qb Yr (Qa (nP 1) (Qa (yp [C 1,C 2,C 3,C 4] "camp" (nP 0)) (Qa (yp [C 1,C 2,C 3,C 4] "reason" (nP 0)) oK)))) (Qa (Qb QC (Qa (nP 1) (Qa (yp [C 1,C 2,C 3,C 4] "other" (nP 0)) oK))) oK)))))
def YV(C:Nat->Addr):=oX 2 2 (YG (pD (Qa (yp [C 1,C 2,C 3,C 4] "name" (nP 0)) oK)))
def QD:=oX 2 2 (oR (oJ pC (oJ qJ (nP 0) (nP 1)) (nP 0)))
def Yl:=(oM (oW [8] 9 (oJ ql (mN 1) (oJ oU (nP 8) (mN 0))))
 (ph (sk (qb (pE (Qb QD (Qa (nP 9) (Qa (nP 4) oK))))) (pE (Qb QD (Qa (oJ oU (nP 3) (nP 7)) (Qa (nP 4) oK))))) (oM (vv 4 Cw (nP 9))
 (oM (qo [7] 5 (nP 7))
 (oW [] 6 (mC (.bl Y))))) pr))
def Yj:=(oM (oW [] 6 (mC (.bl U)))
 (qv [2] (Qb GJ (Qa (nP 2) oK)) (ZQ 7 8) Yl))
def QX:=oX 10 2 (oM (oW [0] 2 (oJ oU (nP 0) (mN 2)))
 (oM (Qs [2] 3 (Qo (qO (nP 2)) 1 [] (oY 0) Qw (Qb Zc (Qa (oJ oU (nP 0) (mN 1)) oK))))
 (oM (oW [1] 4 (nP 1))
 (oM (Qs [] 5 (pD oK))
 (oM (oW [] 6 (mC (.bl Y)))
 (oM (Oq 1000 (pE (nP 6)) Yj)
 (YF 5)))))))
def QN:=(oM (oW [0,5] 6 (oJ oU (oJ oU (nP 0) (mN 2)) (nP 5)))
 (ph (pE (Qb QD (Qa (oJ ql (mN 1) (oJ oU (nP 6) (mN 0))) (Qa (nP 3) oK)))) (oM (vv 3 Cw (Qb Zc (Qa (oJ oU (nP 6) (mN 1)) oK)))
 (qo [5] 4 (nP 5))) pr))
def Yn:=oX 7 3 (oM (oW [1] 3 (oJ ql (mN 1) (nP 1)))
 (oM (Qs [] 4 (pD oK))
 (oM (qv [2] (Qb uF (Qa (nP 2) oK)) (oY 5) QN)
 (oR (Qb SI (Qa (nP 4) oK))))))
def ZN:=oX 3 3 (oR (oJ Cw (nP 1) (Qb Zc (Qa (o6 (Qo (pG (nP 2)) 1 [0] (oY 0) Qw (oJ oU (oJ oU (oJ oU (nP 1) (mN 2)) (nP 0)) (mN 0)))) oK))))
def Nf:=oX 4 3 (oM (oW [0,1] 3 (Qb QX (Qa (nP 0) (Qa (nP 1) oK))))
 (oM (ph (qb (pE (Qb QD (Qa (oJ ql (mN 1) (nP 2)) (Qa (Qb ZN (Qa (nP 0) (Qa (nP 1) (Qa (nP 3) oK)))) oK))))) (oR (mC .non)) pr)
 (oR (Qb Yn (Qa (nP 0) (Qa (nP 2) (Qa (nP 3) oK)))))))
noncomputable def QQ:=oX 2 2 (oM (ph (qb (pE (oJ oU (nP 1) (mN 1)))) (oR (oJ oU (nP 0) (oJ oU (nP 1) (mN 0)))) pr)
 (oR (oJ o7 (oJ o7 (oJ oU (nP 0) (oJ oU (nP 1) (mN 0))) (mC (.str " if "))) (rO "str" xB (mC (.str " ")) (Qa (o6 (Qo (qO (oJ oU (nP 1) (mN 1))) 1 [0] (oY 0) Qw (oJ oU (nP 1) (nP 0)))) oK)))))
def TH:=oX 5 4 (oM (oW [1,2,3] 4 (Qb Nf (Qa (nP 1) (Qa (nP 2) (Qa (nP 3) oK)))))
 (oM (ph (oQ (oJ IK (nP 4) (mC .non))) (YG (pD (Qa (mC (.str "no")) oK))) pr)
 (YG (oJ tw (o6 (pD (Qa (mC (.str "yes")) oK))) (o6 (Qo (qO (nP 4)) 1 [0,1] (oY 0) Qw (Qb QQ (Qa (nP 1) (Qa (oJ oU (oJ oU (nP 2) (mN 2)) (nP 0)) oK)))))))))
def YO:=oX 2 2 (oR (Qb ZN (Qa (nP 0) (Qa (nP 1) (Qa (Qb QX (Qa (nP 0) (Qa (nP 1) oK))) oK)))))
def Xd:=oX 3 2 (oM (oW [0,1] 2 (Qb YO (Qa (nP 0) (Qa (nP 1) oK))))
 (oR (Qb Zc (Qa (o6 (Qo (Qb GJ (Qa (oJ oU (nP 0) (mN 1)) oK)) 2 [2] (ZQ 0 1) (pE (Qb QD (Qa (oJ ql (mN 1) (nP 1)) (Qa (nP 2) oK)))) (nP 0))) oK))))
def Ys:=oX 3 3 (oR (Qb QD (Qa (oJ ql (mN 1) (nP 2)) (Qa (Qb YO (Qa (nP 0) (Qa (nP 1) oK))) oK))))
def Wl:=(oM (oW [3,4] 5 (oJ qJ (nP 3) (uC xf (oJ ql (mN 1) (nP 4)))))
 (ph (pE (Qb Ys (Qa (nP 0) (Qa (nP 5) (Qa (nP 2) oK))))) (oW [5] 3 (nP 5)) pr))
def QJ:=oX 6 3 (oM (ph (qb (pE (Qb Ys (Qa (nP 0) (Qa (nP 1) (Qa (nP 2) oK)))))) (oR (mC .non)) pr)
 (oM (oW [1] 3 (nP 1))
 (oM (qv [1] (pG (Qb Nc (Qa (nP 1) oK))) (oY 4) Wl)
 (YF 3))))
def Zt:=oX 4 3 (oM (oW [1] 3 (oJ oU (Qb Nc (Qa (nP 1) oK)) (mN 0)))
 (oR (pV (Qa (nP 3) (Qa (Qb QJ (Qa (nP 0) (Qa (nP 2) (Qa (oJ oU (oJ oU (nP 0) (mN 1)) (nP 3)) oK)))) oK)))))
def Zn:=oX 1 1 (oR (oJ vt (oJ ql (mN 1) (Qb o9 (Qa (oJ oU (nP 0) (mN 1)) oK))) (mN 1)))
def YN:=oX 2 2 (oR (oJ qJ (Qb Zn (Qa (nP 0) oK)) (uC xf (Qb Xd (Qa (nP 0) (Qa (nP 1) oK))))))
def Zm:=oX 2 2 (oR (Qb YN (Qa (nP 0) (Qa (Qb YN (Qa (nP 0) (Qa (nP 1) oK))) oK))))
def Rg:=oX 4 2 (oM (oW [1,0,1] 2 (oJ qJ (nP 1) (Qb Xd (Qa (nP 0) (Qa (nP 1) oK)))))
 (oM (ph (pE (nP 2)) (oR (oJ SU (pV (Qa (mC (.str "torn")) oK)) (Qb Zt (Qa (nP 0) (Qa (nP 2) (Qa (nP 1) oK)))))) pr)
 (oM (oW [1,0,1] 3 (oJ qJ (nP 1) (uC xf (Qb Zm (Qa (nP 0) (Qa (nP 1) oK))))))
 (oM (ph (pE (nP 3)) (oR (oJ SU (pV (Qa (mC (.str "bare")) oK)) (Qb Zt (Qa (nP 0) (Qa (nP 3) (Qa (Qb YN (Qa (nP 0) (Qa (nP 1) oK))) oK)))))) pr)
 (oR (mC .non))))))
def Yg:=oX 4 3 (oM (oW [1,2] 3 (Qb Rg (Qa (nP 1) (Qa (nP 2) oK))))
 (oM (ph (oQ (oJ IK (nP 3) (mC .non))) (YG (pD (Qa (mC (.str "stands")) oK))) pr)
 (YG (pD (Qa (rO "str" xB (mC (.str " ")) (Qa (o6 (pD (Qa (oJ oU (nP 3) (mN 0)) (Qa (oJ oU (nP 0) (oJ oU (nP 3) (mN 1))) (Qa (Qb QC (Qa (nP 0) (Qa (oJ oU (nP 3) (mN 2)) oK))) oK))))) oK)) oK)))))
def TJ:=oX 2 2 (oR (oJ o7 (oJ o7 (nP 0) (mC (.str " "))) (t9 (oQ (oJ IK (nP 1) (mC .non))) (mC (.str "-")) (Qb vL (Qa (nP 1) oK)))))
def Wm:=(oM (oW [0,1] 1 (Qb Zm (Qa (nP 0) (Qa (nP 1) oK))))
 (qo [1] 2 (nP 1)))
noncomputable def TK:=oX 3 1 (oM (oW [] 1 (mN 0))
 (oM (Qs [1] 2 (pD (Qa (nP 1) oK)))
 (oM (Oq 1000 (oQ (oJ sg (Qb Zm (Qa (nP 0) (Qa (nP 1) oK))) (nP 1))) Wm)
 (YF 2))))
def Xx:=(ph (pE (Qb QD (Qa (oJ ql (mN 1) (nP 1)) (Qa (nP 3) oK)))) (YF 2) pr)
def TL:=oX 4 2 (oM (qv [0] (Qb Jz (Qa (nP 0) oK)) (ZQ 2 3) Xx)
 (oR (mC .non)))
def QS:=oX 3 1 (oM (oW [0] 1 (Qb TK (Qa (nP 0) oK)))
 (oM (Qs [0,1] 2 (Qo (rk (Qb o9 (Qa (oJ oU (nP 0) (mN 1)) oK))) 1 [1] (oY 0) Qw (Qb TL (Qa (nP 1) (Qa (nP 0) oK)))))
 (oR (pV (Qa (oJ oU (nP 1) (uC rY (mN 1))) (Qa (Qb Yh (Qa (nP 2) oK)) oK))))))
def XH:=oX 2 2 (YG (Qo (Qb GJ (Qa (oJ oU (Qb QS (Qa (nP 1) oK)) (mN 1)) oK)) 2 [0] (ZQ 0 1) Qw (Qb TJ (Qa (oJ oU (nP 2) (nP 0)) (Qa (nP 1) oK)))))
def TN:=oX 2 2 (oR (oJ pC (oJ qJ (nP 1) (Qb Xd (Qa (nP 0) (Qa (nP 1) oK)))) (mN 0)))
def Rh:=oX 2 2 (oR (rM (Qb TN (Qa (nP 0) (Qa (nP 1) oK))) (Qb QD (Qa (nP 1) (Qa (Qb Zm (Qa (nP 0) (Qa (nP 1) oK))) oK)))))
def Wn:=(oM (oW [2,3] 4 (Qb OJ (Qa (o6 (Qo (pG (nP 2)) 1 [3] (oY 0) Qw (Qb QD (Qa (nP 1) (Qa (nP 0) oK))))) oK)))
 (ph (sk (qb (pE (nP 4))) (pE (Qb Rh (Qa (nP 0) (Qa (nP 3) oK))))) (qo [3] 2 (nP 3)) pr))
def d_camps:=(oM (Qs [] 2 (pD oK))
 (oM (BI (JM (Qb Zn (Qa (nP 0) oK)) (uC rY (mN 1)) (uC rY (mN 1))) (oY 3) Wn)
 (oR (Qb Yh (Qa (o6 (Qo (Qb uF (Qa (nP 2) oK)) 1 [1] (oY 0) (pE (Qb QD (Qa (nP 1) (Qa (nP 0) oK)))) (nP 0))) oK)))))
def Xz:List PV->Option PV:=oX 5 2 d_camps
noncomputable def XI:=oX 3 3 (YG (Qo (qO (Qb Xz (Qa (nP 1) (Qa (nP 2) oK)))) 1 [0] (oY 0) Qw (Qb QC (Qa (nP 1) (Qa (nP 0) oK)))))
def YH:=oX 3 3 (oR (oJ o7 (oJ o7 (oJ o7 (mC (.str "guess ")) (oJ oU (nP 0) (nP 1))) (mC (.str " unless "))) (oJ oU (nP 0) (nP 2))))
def Zf:=oX 4 2 (oM (Qs [1,0] 2 (Qo (Qb GJ (Qa (oJ oU (nP 1) (mN 1)) oK)) 2 [0] (ZQ 0 1) Qw (Qb YH (Qa (nP 2) (Qa (nP 0) (Qa (nP 1) oK))))))
 (oM (Qs [1,0] 3 (Qo (qO (oJ oU (nP 1) (mN 2))) 1 [0] (oY 0) Qw (Qb QQ (Qa (nP 1) (Qa (nP 0) oK)))))
 (oR (rO "str" xB (mC (.str "\n")) (Qa (o6 (oJ tw (nP 2) (nP 3))) oK)))))
def QY:=qA 3 3 (rZ (vh [1] "word" (nP 1))
 (vh [2] "name" (nP 2)))
def ZD:=qA 5 5 (rZ (GP 0 [0,1] QY (Qa (nP 0) (Qa (nP 1) (Qa (mC (.str "maybe")) oK))))
 (rZ (vh [2] "camp" (nP 2))
 (rZ (vh [3] "reason" (nP 3))
 (vh [4] "other" (nP 4)))))
def Zb:=qA 3 3 (rZ (GP 0 [0,1] QY (Qa (nP 0) (Qa (nP 1) (Qa (mC (.str "settled")) oK))))
 (vh [2] "reason" (nP 2)))
def ZU:=qA 3 3 (rZ (GP 0 [0,1] QY (Qa (nP 0) (Qa (nP 1) (Qa (mC (.str "sure")) oK))))
 (vh [2] "pairs" (nP 2)))
def ZC:=qA 2 2 (GP 0 [0,1] QY (Qa (nP 0) (Qa (nP 1) (Qa (mC (.str "never")) oK))))
def TQ(C:Nat->Addr):=oX 6 2 (oM (oW [0,0,1] 2 (Qb QJ (Qa (nP 0) (Qa (oJ oU (Qb QS (Qa (nP 0) oK)) (mN 0)) (Qa (nP 1) oK)))))
 (oM (ph (oQ (oJ Oe (nP 2) (mC .non))) (oR (tG (C 1) Zb (Qa (nP 1) (Qa (nP 2) oK)))) pr)
 (oM (Qs [0,0,1] 3 (Qo (qO (Qb Xz (Qa (nP 0) (Qa (mN 0) oK)))) 1 [0,1] (oY 0) Qw (pV (Qa (nP 0) (Qa (Qb QJ (Qa (nP 1) (Qa (nP 0) (Qa (nP 2) oK)))) oK)))))
 (oM (Qs [3] 4 (Qo (pG (nP 3)) 1 [] (oY 0) (oQ (oJ Oe (oJ oU (nP 0) (mN 1)) (mC .non))) (nP 0)))
 (oM (Qs [3] 5 (Qo (pG (nP 3)) 1 [] (oY 0) (oQ (oJ IK (oJ oU (nP 0) (mN 1)) (mC .non))) (oJ oU (nP 0) (mN 0))))
 (oM (ph (qb (pE (nP 5))) (oR (tG (C 2) ZU (Qa (nP 1) (Qa (Qb Yh (Qa (nP 4) oK)) oK)))) pr)
 (oM (ph (qb (pE (nP 4))) (oR (tG (C 4) ZC (Qa (nP 1) oK))) pr)
 (oR (tG (C 3) ZD (Qa (nP 1) (Qa (oJ oU (oJ oU (nP 4) (mN 0)) (mN 0)) (Qa (oJ oU (oJ oU (nP 4) (mN 0)) (mN 1)) (Qa (oJ oU (nP 5) (mN 0)) oK)))))))))))))
def TR(C:Nat->Addr):=oX 5 3 (oM (Qs [2,0] 3 (Qo (pG (Qb ZM (Qa (nP 2) oK))) 1 [0] (oY 0) Qw (rQ ZF (nP 1) (Qa (nP 0) oK))))
 (oM (oW [2,0] 4 (Qb Zc (Qa (o6 (Qo (pG (Qb QL (Qa (nP 2) oK))) 1 [0] (oY 0) Qw (rQ ZF (nP 1) (Qa (nP 0) oK)))) oK)))
 (oM (ph (oQ (oJ pC (oJ oU (nP 2) (mN 0)) (mC (.str "lot")))) (oR (VJ [(C 1,(Zk C)),(C 2,(Yu C)),(C 3,(ZP C)),(C 4,(YV C))] "shown" (Qb (TQ C) (Qa (nP 1) (Qa (oJ oU (nP 3) (mN 0)) oK))) (Qa (nP 0) oK))) pr)
 (oM (ph (oQ (oJ pC (oJ oU (nP 2) (mN 0)) (mC (.str "why")))) (oR (Qb TH (Qa (nP 0) (Qa (nP 1) (Qa (nP 4) (Qa (oJ oU (nP 3) (mN 0)) oK)))))) pr)
 (oM (ph (oQ (oJ pC (oJ oU (nP 2) (mN 0)) (mC (.str "flaw")))) (oR (Qb Yg (Qa (nP 0) (Qa (nP 1) (Qa (nP 4) oK))))) pr)
 (oM (ph (oQ (oJ pC (oJ oU (nP 2) (mN 0)) (mC (.str "ranks")))) (oR (Qb XH (Qa (nP 0) (Qa (nP 1) oK)))) pr)
 (oM (ph (oQ (oJ pC (oJ oU (nP 2) (mN 0)) (mC (.str "camps")))) (oR (Qb XI (Qa (nP 0) (Qa (nP 1) (Qa (nP 4) oK))))) pr)
 (oR (Qb ZE (Qa (Qb Zf (Qa (nP 0) (Qa (nP 1) oK))) oK))))))))))
def Yc(C:Nat->Addr):=oX 3 2 (oM (ph (pE (rO "str" M9 (nP 1) (Qa (mC (.str "tell ")) oK))) (oM v9
 (YG (pD oK))) pr)
 (oM (ph (pE (rO "str" M9 (nP 1) (Qa (mC (.str "drop ")) oK))) (oM v9
 (YG (pD oK))) pr)
 (oM (Qs [1] 2 (rO "str" Yz (nP 1) (Qa (mC (.str " ")) oK)))
 (oM (vJ [2] (Qb YI (Qa (nP 2) oK)))
 (oM (vJ [0,0,2] (Qb Ym (Qa (uL (C 5) "names" (nP 0)) (Qa (uL (C 5) "book" (nP 0)) (Qa (nP 2) oK)))))
 (oR (Qb (TR C) (Qa (uL (C 5) "names" (nP 0)) (Qa (uL (C 5) "book" (nP 0)) (Qa (nP 2) oK))))))))))
def Yv:=(oM (ph (qb (oQ (IX GC BG (mN 0) (nP 7) (Qb o9 (Qa (nP 4) oK))))) (YF 6) pr)
 (oM (ph (qb (pE (Qb QD (Qa (Qb Zc (Qa (oJ oU (oJ oU (nP 4) (nP 7)) (mN 1)) oK)) (Qa (nP 5) oK))))) (YF 6) pr)
 (vv 5 Cw (oJ ql (mN 1) (oJ oU (oJ oU (nP 4) (nP 7)) (mN 0))))))
def XF:=oX 8 4 (oM (oW [0] 4 (oJ oU (nP 0) (mN 2)))
 (oM (oW [1] 5 (nP 1))
 (oM (qv [3] (Qb GJ (Qa (nP 3) oK)) (ZQ 6 7) Yv)
 (oR (t9 (pE (Qb QD (Qa (oJ ql (mN 1) (nP 2)) (Qa (nP 5) oK)))) (mC .non) (Qb o9 (Qa (nP 3) oK)))))))
def YW:=(oM (ph (oQ (oJ Zq (oJ oU (oJ oU (oJ oU (nP 1) (mN 2)) (nP 8)) (mN 0)) (nP 7))) (oR (mC (.bl U))) pr)
 (Qs [7,1,8] 7 (oJ tw (nP 7) (o6 (Qb M0 (Qa (oJ oU (oJ oU (oJ oU (nP 1) (mN 2)) (nP 8)) (mN 1)) oK))))))
def Xv:=oX 9 5 (oM (ph (oQ (oJ pC (oJ pz (oJ sP (Qb YO (Qa (nP 1) (Qa (nP 2) oK))) (oJ ql (mN 1) (nP 3))) (mN 2)) (mN 0))) (oR (oJ pC (nP 4) (o6 (pD (Qa (mC (.str "no")) oK))))) pr)
 (oM (Qs [1,0] 5 (Qo (qO (oJ oU (nP 1) (mN 2))) 1 [0] (oY 0) Qw (Qb QQ (Qa (nP 1) (Qa (nP 0) oK)))))
 (oM (ph (rS (oQ (oJ sg (oJ oU (nP 4) (mN 0)) (mC (.str "yes")))) (oQ (oJ t5 (Qb o9 (Qa (o6 (Qo (pG (o6 (rL ra (nP 4) (rA (mN 1)) sj))) 1 [5] (oY 0) (oQ (oJ Zq (nP 0) (nP 1))) (nP 0))) oK)) (mN 0)))) (oR (mC (.bl U))) pr)
 (oM (Qs [4,5] 6 (Qo (pG (o6 (rL ra (nP 4) (rA (mN 1)) sj))) 1 [5] (oY 0) Qw (rO "list" Pp (nP 1) (Qa (nP 0) oK))))
 (oM (ph (oQ (oJ Oe (Qb XF (Qa (nP 1) (Qa (nP 2) (Qa (nP 3) (Qa (Qb Yh (Qa (nP 6) oK)) oK))))) (mC .non))) (oR (mC (.bl U))) pr)
 (oM (Qs [3] 7 (pD (Qa (nP 3) oK)))
 (oM (qv [6] (Qb uF (Qa (nP 6) oK)) (oY 8) YW)
 (oR (oJ pC (Qb OD (Qa (o6 (Qo (pG (nP 6)) 1 [1] (oY 0) Qw (oJ oU (oJ oU (oJ oU (nP 1) (mN 2)) (nP 0)) (mN 0)))) oK)) (Qb o9 (Qa (nP 6) oK)))))))))))
def Yk:=(ph (sk (pE (Qb QD (Qa (oJ ql (mN 1) (nP 1)) (Qa (nP 4) oK)))) (qb (pE (Qb OJ (Qa (o6 (Qo (pG (nP 2)) 1 [3] (oY 0) Qw (Qb QD (Qa (nP 0) (Qa (nP 1) oK))))) oK))))) (qo [3] 2 (nP 3)) pr)
def ZB:=oX 5 2 (oM (Qs [] 2 (pD oK))
 (oM (qv [0] (Qb Jz (Qa (nP 0) oK)) (ZQ 3 4) Yk)
 (oR (Qb Yh (Qa (nP 2) oK)))))
def Zo:=oX 1 1 (YG (Qo (rk (oJ o7 (Qb Zn (Qa (nP 0) oK)) (mN 1))) 1 [0] (oY 0) Qw (Qb YO (Qa (nP 1) (Qa (nP 0) oK)))))
def YS:=oX 2 2 (oR (Qb ZB (Qa (Qb Zo (Qa (nP 0) oK)) (Qa (nP 1) oK))))
def Wp:=(oM (ph (rS (oQ (oJ Zq (nP 4) (nP 0))) (oQ (oJ GC (rQ ZF (nP 0) (Qa (nP 4) oK)) (nP 2)))) (oR (uC rY (mN 1))) pr)
 (oM (oW [0,4] 2 (rQ ZF (nP 0) (Qa (nP 4) oK)))
 (oW [3,2] 3 (oJ o7 (nP 3) (oJ ql (mN 1) (nP 2))))))
def Ze:=oX 5 2 (oM (ph (rS (oQ (oJ sg (rL wa (nP 1) sj (rA (mN 1))) (mC (.str "{")))) (rS (oQ (oJ sg (rL wa (nP 1) (rA (uC rY (mN 1))) sj) (mC (.str "}")))) (oQ (oJ pC (nP 1) (mC (.str "{")))))) (oR (uC rY (mN 1))) pr)
 (oM (ph (oQ (oJ pC (nP 1) (mC (.str "{}")))) (oR (mN 0)) pr)
 (oM (oW [] 2 (uC rY (mN 1)))
 (oM (oW [] 3 (mN 0))
 (oM (qv [1] (pG (o6 (rO "str" Yz (rL wa (nP 1) (rA (mN 1)) (rA (uC rY (mN 1)))) (Qa (mC (.str " ")) oK)))) (oY 4) Wp)
 (YF 3))))))
def YU:=oX 8 3 (oM (xn [1] (Sy 3 4 5) (rO "str" GZ (nP 1) (Qa (mC (.str "} {")) oK)))
 (oM (oW [0,3] 6 (Qb Ze (Qa (nP 0) (Qa (oJ o7 (nP 3) (mC (.str "}"))) oK))))
 (oM (oW [0,5] 7 (Qb Ze (Qa (nP 0) (Qa (oJ o7 (mC (.str "{")) (nP 5)) oK))))
 (oM (ph (rS (oQ (oJ BG (nP 6) (mN 0))) (rS (oQ (oJ Zq (nP 7) (nP 2))) (oQ (oJ sg (oJ qJ (nP 7) (nP 6)) (nP 7))))) (oR (uC rY (mN 1))) pr)
 (YF 6)))))
def Xw:=oX 10 4 (oM (oW [1,2] 4 (Qb YS (Qa (nP 1) (Qa (nP 2) oK))))
 (oM (oW [1] 5 (oJ oU (Qb QS (Qa (nP 1) oK)) (mN 0)))
 (oM (oW [1] 6 (Qb Xz (Qa (nP 1) (Qa (mN 0) oK))))
 (oM (Qs [6,4] 7 (Qo (qO (nP 6)) 1 [4] (oY 0) (oQ (oJ t5 (Qb o9 (Qa (o6 (Qo (qO (nP 1)) 1 [0] (oY 0) (oQ (oJ pC (oJ qJ (nP 0) (nP 1)) (nP 0))) (nP 0))) oK)) (mN 0))) (nP 0)))
 (oM (ph (oQ (oJ t5 (Qb o9 (Qa (o6 (Qo (qO (nP 4)) 1 [5] (oY 0) (oQ (oJ pC (oJ qJ (nP 0) (nP 1)) (nP 0))) (nP 0))) oK)) (mN 0))) (oM (oW [0,3] 8 (Qb Ze (Qa (nP 0) (Qa (rL wa (oJ oU (nP 3) (mN 0)) (rA (mN 8)) sj) oK))))
 (oR (rM (oJ pC (Qb o9 (Qa (nP 3) oK)) (mN 1)) (rM (oJ pC (rL wa (oJ oU (nP 3) (mN 0)) sj (rA (mN 8))) (mC (.str "settled "))) (rM (oJ qK (nP 8) (nP 4)) (oJ pC (oJ qJ (nP 8) (nP 5)) (nP 8))))))) pr)
 (oM (ph (oQ (oJ pC (Qb o9 (Qa (nP 7) oK)) (mN 0))) (oR (oJ pC (nP 3) (o6 (pD (Qa (mC (.str "never")) oK))))) pr)
 (oM (ph (oQ (oJ pC (Qb o9 (Qa (nP 7) oK)) (Qb o9 (Qa (nP 6) oK)))) (oR (rM (oJ pC (oJ oU (nP 3) (mN 0)) (mC (.str "sure"))) (oJ pC (o6 (Qo (pG (o6 (rL ra (nP 3) (rA (mN 1)) sj))) 1 [0,4] (oY 0) Qw (Qb YU (Qa (nP 1) (Qa (nP 0) (Qa (nP 2) oK)))))) (o6 (Qb M0 (Qa (nP 6) oK)))))) pr)
 (oM (ph (rS (oQ (oJ sg (Qb o9 (Qa (nP 3) oK)) (mN 3))) (rS (oQ (oJ sg (oJ oU (nP 3) (mN 0)) (mC (.str "maybe")))) (oQ (oJ Zq (Qb YU (Qa (nP 0) (Qa (oJ oU (nP 3) (mN 1)) (Qa (nP 4) oK)))) (nP 7))))) (oR (mC (.bl U))) pr)
 (oM (oW [0,3] 9 (Qb Ze (Qa (nP 0) (Qa (oJ oU (nP 3) (mN 2)) oK))))
 (oR (rM (oJ qK (nP 9) (nP 6)) (oJ Zq (nP 9) (nP 7)))))))))))))
def Zy:=oX 7 4 (oM (ph (pE (Qb Rh (Qa (nP 1) (Qa (nP 2) oK)))) (oR (oJ pC (nP 3) (o6 (pD (Qa (mC (.str "stands")) oK))))) pr)
 (oM (Qs [3] 4 (rO "str" Yz (oJ oU (rO "str" GZ (oJ oU (nP 3) (mN 0)) (Qa (mC (.str "{")) oK)) (mN 0)) (Qa (mC (.str " ")) oK)))
 (oM (ph (rS (oQ (oJ sg (Qb o9 (Qa (nP 3) oK)) (mN 1))) (rS (oQ (oJ sg (Qb o9 (Qa (nP 4) oK)) (mN 3))) (rS (oQ (oJ Zq (oJ oU (nP 4) (mN 1)) (nP 0))) (oQ (oJ sg (oJ oU (nP 4) (mN 2)) (mC (.str ""))))))) (oR (mC (.bl U))) pr)
 (oM (oW [0,4] 5 (rQ ZF (nP 0) (Qa (oJ oU (nP 4) (mN 1)) oK)))
 (oM (oW [0,3,4,4] 6 (Qb Ze (Qa (nP 0) (Qa (rL wa (oJ oU (nP 3) (mN 0)) (rA (oJ o7 (oJ o7 (Qb o9 (Qa (oJ oU (nP 4) (mN 0)) oK)) (Qb o9 (Qa (oJ oU (nP 4) (mN 1)) oK))) (mN 2))) sj) oK))))
 (oM (ph (rS (oQ (oJ N4 (nP 5) (Qb o9 (Qa (oJ oU (nP 1) (mN 1)) oK)))) (rS (oQ (oJ pC (oJ pz (oJ sP (nP 2) (oJ ql (mN 1) (nP 5))) (mN 2)) (mN 0))) (oQ (oJ Zq (nP 6) (Qb YS (Qa (nP 1) (Qa (oJ oU (oJ oU (nP 1) (mN 1)) (nP 5)) oK))))))) (oR (mC (.bl U))) pr)
 (oM (ph (oQ (oJ sg (oJ qJ (Qb Xd (Qa (nP 1) (Qa (nP 2) oK))) (nP 2)) (mN 0))) (oR (rM (oJ pC (oJ oU (nP 4) (mN 0)) (mC (.str "torn"))) (oJ pC (oJ qJ (nP 6) (nP 2)) (nP 6)))) pr)
 (oR (rM (oJ pC (oJ oU (nP 4) (mN 0)) (mC (.str "bare"))) (oJ pC (oJ qJ (Qb Xd (Qa (nP 1) (Qa (nP 2) oK))) (nP 6)) (mN 0)))))))))))
def ZZ:=(ph (oQ (oJ IK (nP 4) (mC .non))) (qo [3] 2 (oJ o7 (nP 3) (mC (.str " -")))) (qo [3,4] 2 (oJ o7 (oJ o7 (nP 3) (mC (.str " "))) (Qb vL (Qa (nP 4) oK)))))
def Zu:=oX 5 2 (oM (Qs [] 2 (pD oK))
 (oM (qv [0,1] (Qb Tc (Qa (nP 0) (Qa (oJ oU (Qb QS (Qa (nP 1) oK)) (mN 1)) oK))) (ZQ 3 4) ZZ)
 (YF 2)))
def Yt:=oX 1 1 (oM (ph (oQ (oJ pC (nP 0) (mC (.str "")))) (YG (pD oK)) pr)
 (YG (rO "str" Yz (nP 0) (Qa (mC (.str "\n")) oK))))
def QM(C:Nat->Addr):=oX 11 6 (oM (oW [5,0] 6 (rO "str" xB (mC (.str "")) (Qa (o6 (Qo (pG (nP 5)) 1 [0] (oY 0) Qw (oJ o7 (mC (.str " ")) (oJ oU (nP 1) (nP 0))))) oK)))
 (oM (oW [5] 7 (Qb xA (Qa (o6 (Qo (pG (o6 (Qb OC (Qa (nP 5) oK)))) 1 [] (oY 0) Qw (oJ ql (mN 1) (nP 0)))) oK)))
 (oM (oW [3] 8 (oJ oU (o6 (pD (Qa (mC (.str "lot")) (Qa (mC (.str "why")) (Qa (mC (.str "why")) (Qa (mC (.str "flaw")) (Qa (mC (.str "camps")) (Qa (mC (.str "lot")) (Qa (mC (.str "ranks")) (Qa (mC (.str "book")) oK)))))))))) (nP 3)))
 (oM (oW [8] 9 (nP 8))
 (oM (ph (oQ (oJ qK (nP 8) (pV (Qa (mC (.str "flaw")) (Qa (mC (.str "camps")) oK))))) (oW [8,6] 9 (oJ o7 (nP 8) (nP 6))) pr)
 (oM (ph (oQ (oJ qK (nP 8) (pV (Qa (mC (.str "lot")) (Qa (mC (.str "why")) oK))))) (oW [8,0,4] 9 (oJ o7 (oJ o7 (nP 8) (mC (.str " "))) (oJ oU (nP 0) (nP 4)))) pr)
 (oM (ph (sk (oQ (oJ pC (nP 3) (mN 2))) (oQ (oJ t5 (Qb o9 (Qa (nP 5) oK)) (mN 0)))) (oW [9,6] 9 (oJ o7 (oJ o7 (nP 9) (mC (.str " by"))) (nP 6))) pr)
 (oM (oW [2,9] 10 (S6 (C 5) "ask" (Yc C) (nP 2) (Qa (nP 9) oK)))
 (oM (ph (rS (qb (pE (uc Ov (nP 10)))) (oQ (oJ t5 (Qb o9 (Qa (o6 (Qo (pG (nP 10)) 1 [] (oY 0) (qb (pE (uc Ou (nP 0)))) (nP 0))) oK)) (mN 0)))) (oR (mC (.bl U))) pr)
 (oM (ph (oQ (oJ pC (nP 8) (mC (.str "ranks")))) (oR (oJ pC (nP 10) (Qb Zu (Qa (nP 0) (Qa (nP 1) oK))))) pr)
 (oM (ph (oQ (oJ pC (nP 8) (mC (.str "book")))) (oR (oJ pC (nP 10) (Qb Yt (Qa (Qb Zf (Qa (nP 0) (Qa (nP 1) oK))) oK)))) pr)
 (oM (ph (oQ (oJ pC (nP 8) (mC (.str "camps")))) (oR (oJ pC (nP 10) (o6 (Qo (qO (Qb Xz (Qa (nP 1) (Qa (nP 7) oK)))) 1 [0] (oY 0) Qw (Qb QC (Qa (nP 1) (Qa (nP 0) oK))))))) pr)
 (oM (ph (oQ (oJ pC (Qb o9 (Qa (nP 10) oK)) (mN 0))) (oR (mC (.bl U))) pr)
 (oM (ph (oQ (oJ pC (nP 8) (mC (.str "lot")))) (oR (Qb Xw (Qa (nP 0) (Qa (nP 1) (Qa (nP 4) (Qa (nP 10) oK)))))) pr)
 (oM (ph (oQ (oJ pC (nP 8) (mC (.str "flaw")))) (oR (Qb Zy (Qa (nP 0) (Qa (nP 1) (Qa (nP 7) (Qa (nP 10) oK)))))) pr)
 (oM (ph (oQ (oJ pC (nP 3) (mN 1))) (oW [] 7 (mN 0)) pr)
 (oR (Qb Xv (Qa (nP 0) (Qa (nP 1) (Qa (nP 7) (Qa (nP 4) (Qa (nP 10) oK)))))))))))))))))))))))
def TU(C:Nat->Addr):=(oM (oW [5] 6 (Qb Zh (Qa (nP 5) (Qa (mN 20) oK))))
 (oM (oW [6] 7 (oJ pz (oJ oU (nP 6) (mN 0)) (mN 8)))
 (oM (Qs [] 8 (pD oK))
 (oM (ph (oQ (oJ t5 (Qb o9 (Qa (oJ oU (nP 3) (mN 1)) oK)) (mN 0))) (Qs [6,6,3] 8 (Qo (rk (oJ pz (oJ oU (nP 6) (mN 6)) (mN 10))) 1 [6,3] (oY 0) Qw (oJ pz (oJ oU (nP 1) (oJ o7 (mN 8) (nP 0))) (Qb o9 (Qa (oJ oU (nP 2) (mN 1)) oK))))) pr)
 (oM (oW [6,2] 9 (oJ pz (oJ oU (nP 6) (mN 7)) (Qb xy (Qa (mN 1) (Qa (Qb o9 (Qa (nP 2) oK)) oK)))))
 (ph (sk (oQ (oJ t5 (Qb o9 (Qa (nP 2) oK)) (mN 0))) (qb (pE (Qb (QM C) (Qa (nP 2) (Qa (nP 3) (Qa (nP 4) (Qa (nP 7) (Qa (nP 9) (Qa (nP 8) oK)))))))))) (oR (mC (.bl U))) pr))))))
def r_law_k60(C:Nat->Addr):=oX 10 1 (oM (oW [0] 1 (Qb YJ (Qa (nP 0) oK)))
 (oM (xn [1] (ZQ 2 3) (Qb YT (Qa (nP 1) oK)))
 (oM (oW [1] 4 (tG (C 5) Zl (Qa (nP 1) oK)))
 (oM (qv [0] (pG (o6 (rL ra (nP 0) (rA (mN 3)) (rA (mN 11))))) (oY 5) (TU C))
 (oR (rM (Qb (QM C) (Qa (nP 2) (Qa (nP 3) (Qa (nP 4) (Qa (mN 6) (Qa (mN 0) (Qa (o6 (pD oK)) oK))))))) (Qb (QM C) (Qa (nP 2) (Qa (nP 3) (Qa (nP 4) (Qa (mN 7) (Qa (mN 0) (Qa (o6 (pD oK)) oK)))))))))))))
end DH
namespace DH
open PySem PySem.Spec PyProof.Rows L2 L2.PM
open Builtin.Str StrLaws
noncomputable def rD(c:Nat):List Nat->Nat->List Nat
 |[],_=>[]
 |d::l,a=>if d=c then a::rD c l (a+1) else rD c l (a+1)
noncomputable def qx(c:Nat):List Nat->List (List Nat)
 |[]=>[[]]
 | d::l=>if d=c then []::qx c l else match qx c l with
  |h::t=>(d::h)::t
  |[]=>[[d]]
def Qfx:∀{w:List Nat},c∉w->qx c w=[w]:=by
 intro w;induction w with
 |nil =>
  intro _;exact rfl
 |cons d w j =>
  intro h;unfold qx;rw[aN (λe=>h (by simp[e])),j (λe=>h (by simp[e]))]
def Qik:∀{w pb:List Nat},c∉w->qx c (w++c::pb)=w::qx c pb:=by
 intro w;induction w with
 |nil =>
  intro pb _;show qx c (c::pb)=_;conv=>lhs;unfold qx
  rw[aw rfl]
 |cons d w j =>
  intro pb h;show qx c (d::(w++c::pb))=_;conv=>lhs;unfold qx
  rw[aN (λe=>h (by simp[e])),j (λe=>h (by simp[e]))]
def QkI x c i:subAt x ⟨#[c]⟩ i=Y↔x.cps.toList[i]?=Z c:=by
 rw[subAt_eq];show((x.cps.toList.drop i).take 1==[c])=Y↔_;rw[a9];constructor
 .intro h;have:=congrArg (λl=>l[0]?) h;simpa using this
 .intro h;rw[cy (ax.mp h).1,(ax.mp h).2];simp
def QkX x c:∀k a l f,a+k=x.length+1->l.size<=a->f<=a ->
  (forIn (List.range' a k) (l,f) (occBody x ⟨#[c]⟩ x.length (x.length+1))).run.fst.toList=l.toList++rD c (x.cps.toList.drop a) a:=by
 intro k;induction k with
 |zero =>
  intro a l f h1 _ _;have B:x.cps.toList.length=x.length:=by simp[cE]
  have:x.cps.toList.drop a=[]:=fu (by lia);rw[this];simp[rD]
 |succ k t =>
  intro a l f h1 h2 h3;rw[n0,gM];by_cases hs:subAt x ⟨#[c]⟩ a=Y
  .have u:=(QkI x c a).mp hs;have j:=(ax.mp u).1;have B:x.cps.toList.length=x.length:=by simp[cE]
   have e:occBody x ⟨#[c]⟩ x.length (x.length+1) a (l,f)=pure (cO (l.push a,a+1)):=by
    delta occBody;rw[aw]
    .rfl
    .simp[hs];refine⟨by lia,?_⟩;show a+1<=x.length;lia
   rw[e];refine Eq.trans (t (a+1) (l.push a) (a+1) (by lia) (by simp;lia) (au _)) ?_;rw[cy j,(ax.mp u).2];simp[rD]
  .have e:occBody x ⟨#[c]⟩ x.length (x.length+1) a (l,f)=pure (cO (l,f)):=by
    delta occBody;rw[aN (by simp[hs])]
    try rfl
   rw[e];refine Eq.trans (t (a+1) l f (by lia) (by lia) (by lia)) ?_;congr 1;by_cases j:a<x.cps.toList.length
   .rw[cy j];conv=>rhs;unfold rD
    rw[aN];intro z;exact hs ((QkI x c a).mpr (by rw[aG j,z]))
   .rw[fu (by lia),fu (by lia)];rfl
def QfF x c:∀n s a,a+n=x.cps.toList.length->s<=a->∃h t,qx c (x.cps.toList.drop a)=h::t /\
  partsFrom x 1 s (rD c (x.cps.toList.drop a) a)=⟨((x.cps.toList.drop s).take (a-s)++h).toArray⟩::t.map λl=>⟨l.toArray⟩:=by
 intro n;induction n with
 |zero =>
  intro s a h1 h2;rw[fu (by lia)];refine⟨[],[],rfl,?_⟩;show [strSub x s x.length]=_;have B:x.cps.toList.length=x.length:=by simp[cE]
  simp;congr 1;apply Str.ext';apply jP.mp;rw[strSub_toList];rw[show x.length-s=a-s by lia]
 |succ n j =>
  intro s a h1 h2;have u:a<x.cps.toList.length:=by lia
  rw[cy u];unfold qx rD;by_cases hc:x.cps.toList[a]=c
  .rw[aw hc,aw hc];obtain⟨h,t,e1,e2⟩:=j (a+1) (a+1) (by lia) (au _);refine⟨[],_,rfl,?_⟩;show strSub x s a::partsFrom x 1 (a+1) _=_;rw[e2,e1];congr 1
   .apply Str.ext';apply jP.mp;rw[strSub_toList];simp
   .simp
  .rw[aN hc,aN hc];obtain⟨h,t,e1,e2⟩:=j s (a+1) (by lia) (by lia);rw[e1];refine⟨x.cps.toList[a]::h,t,rfl,?_⟩;rw[e2];congr 2;rw[show a+1-s=(a-s)+1 by lia,List.take_succ_eq_append_getElem (by rw[da];lia),bX,List.getElem_drop];have e3:s+(a-s)=a:=by lia
   simp only[gB,e3]
def sp:Str := " "
def G9:sp=⟨#[32]⟩:=by decide+kernel
def zY x:eU x sp=(qx 32 x.cps.toList).map λl=>⟨l.toArray⟩:=by
 have B:x.cps.toList.length=x.length:=by simp[cE]
 have ho:occurrences x sp 0 x.length (x.length+1)=rD 32 x.cps.toList 0:=by
  rw[occ_eq];have:=QkX x 32 (x.length+1) 0 #[] 0 (by lia) (by simp) (au _);rw[<-G9]at this;simpa using this
 obtain⟨h,t,e1,e2⟩:=QfF x 32 x.cps.toList.length 0 0 (by lia) (au _);rw[gs]at e1 e2;have main:partsFrom x 1 0 (rD 32 x.cps.toList 0)=(qx 32 x.cps.toList).map λl=>⟨l.toArray⟩:=by
  rw[e2,e1];simp
 delta eU;rw[ho];by_cases j:rD 32 x.cps.toList 0=[]
 .rw[j]at main;have one:[x]=(qx 32 x.cps.toList).map λl=>⟨l.toArray⟩:=by
   rw[<-main];show [x]=[strSub x 0 x.length];rw[sub_whole]
  rw[j];split
  .exact one
  .exact one
 .have u:¬(decide (x.length<sp.length)||decide (cL x<cL sp))=Y:=by
   have k1:cL sp=1:=by decide+kernel
   have k2:1<=cL x:=by delta cL;split;lia;split<;>lia
   have D:sp.length=1:=rfl;have E:0<x.cps.toList.length:=by
    cases L:x.cps.toList with
    |nil=>rw[L]at j;exact absurd rfl j
    |cons _ _=>simp
   simp;lia
  rw[aN u,aN (by simpa using j),partsBetween_eq];exact main
def TV:∀w ws,(∀s∈w::ws,32∉s.cps.toList)->eU (aL sp (w::ws)) sp=w::ws:=by
 have key:∀w ws,(∀s∈w::ws,32∉s.cps.toList)->qx 32 (aL sp (w::ws)).cps.toList=(w::ws).map λs=>s.cps.toList:=by
  intro w ws;induction ws generalizing w with
  |nil =>
   intro h;rw[QF,Qfx (h w (by simp))];rfl
  |cons v ws j =>
   intro h;rw[Ql];have e:(w++sp++aL sp (v::ws)).cps.toList=w.cps.toList++32::(aL sp (v::ws)).cps.toList:=by
    show(w.cps++sp.cps++(aL sp (v::ws)).cps).toList=_;rw[show sp.cps = #[32] by rw[G9]];simp
   rw[e,Qik (h w (by simp)),j v λs hs=>h s (ay _ hs)];rfl
 intro w ws h;rw[zY,key w ws h,aB];exact List.map_id' _
end DH
namespace DH
open PySem PySem.Spec PyProof.Rows L2 L2.PM
def tP(s:Str):Prop:=∀c∈s.cps.toList,97<=c/\c<=122
def no3:List Str:=["guess","unless","if"]
structure Wd (s:Str):Prop where
 l1:1<=s.length
 l2:s.length<=12
 low:tP s
 no:s∉no3
def BP(h:tP s):aA s=Y:=by
 delta aA;rw[hQ];intro c hc;have:=h c (by grind);lia
def Qmt(h:tP s):(s.cps.all (· < 128))=Y:=by
 rw[hQ];intro c hc;have:=h c (by simpa using hc);simp;lia
def Ri(h:tP s):32∉s.cps.toList:=λz=>by
 have:=h 32 z;lia
def Wq(h1:tP a)(h2:tP b):tP (a++b):=λc hc=>by
 have hc:c∈(a.cps++b.cps).toList:=hc;rw[gO]at hc;rcases aS.mp hc with z | z
 .exact h1 c z
 .exact h2 c z
def ok3:∀s∈no3,aA s=Y:=by decide+kernel
def zZ(h:s∉no3):no3.any (·==s)=U:=by
 rw[eQ];intro x j e;exact h (by rw[<-a9.mp e];exact j)
def Ha(h:tP s):qK (.str s) (.tup [.str "guess",.str "unless",.str "if"])=Z (.bl (no3.any (·==s))):=by
 show qK (.str s) (.tup (no3.map .str))=_;rw[Na (BP h) ok3]
def LH(h:Wd s):qK (.str s) (.tup [.str "guess",.str "unless",.str "if"])=Z (.bl U):=by
 rw[Ha h.low,zZ h.no]
def Rj(h:97<=c):rN "a" ⟨#[c]⟩=Y:=by
 show(!decide ([c]<[97]))=Y;rw[hJ,iy];simp;omega
def Rl(h:c<=122):rN ⟨#[c]⟩ "z"=Y:=by
 show(!decide ([122]<[c]))=Y;rw[hJ,iy];simp;omega
def uX a b:De (.str a) (.str b)=Z (.bl (rN a b)):=rfl
def tQ m l:JJ m l=(m l).bind SV:=rfl
def E6(h:tP s):SV (.str s)=Z (BK s):=aw (Qmt h)
def pT s:(BK s).length=s.length:=by delta BK;simp[cE]
def TW(bs:List Bool):M4 [.lst (bs.map .bl)]=Z (.bl (bs.all id)):=by
 show(sQ (bs.map PV.bl)).map (λbs=>PV.bl (bs.all id))=_;rw[QiS];rfl
def vk:=ac (ac EVc @List.length_range) (ac (ac (ac (ac @aU.{0} @dO.{0}) (ac @iI.{1} @aT.{0,0})) (ac (ac @fr.{0,0} @List.replicate_zero.{0}) (ac @List.replicate_succ.{0} (ac @gD.{0} @iU.{0})))) (ac (ac (ac @List.getElem?_cons_zero.{0} @la.{0}) (ac @bm.{0,0} (ac @gK.{0,0} @List.set_cons_zero.{0}))) (ac (ac @m5.{0} @ag.{0,0}) (ac @List.all_nil.{0} (ac @kX.{0} @a0.{0})))))
local macro_rules|`(tactic| fail"e")=>`(tactic| first|assumption|omega|(simp only[pT,pF,List.length_map,List.length_range,List.length_cons,List.length_nil,List.length_append];omega)|decide)
local macro_rules|`(tactic| walk_at "ev")=>`(tactic| try simp (disch:=fail"e") only[si,tQ,uX,pT,vk])
def TX(h:Wd s):Zd [.str s]=Z (.bl Y):=by
 have h1:=h.l1;have h2:=h.l2;delta Zd;ext;rw[LH h];ext;rw[a8 h1];ext;rw[a8 h2];ext;rw[E6 h.low];ext;delta BK;rw[Qk (λc=>PV.str ⟨#[c]⟩) (λ_=>PV.bl Y) _ λc hc=>⟨_,rfl,by
  obtain⟨j,l⟩:=h.low c hc;ext;rw[Rj j];ext;rw[Rl l]⟩]
 rw[show(s.cps.toList.map λ_=>PV.bl Y)=(s.cps.toList.map λ_=>Y).map PV.bl by rw[aB];rfl];ext;rw[TW];rw[show(s.cps.toList.map λ_=>Y).all id=Y by simp];rfl
theorem Xm:aA "guess"=Y:=by decide+kernel
def z0:aA "unless"=Y:=by decide+kernel
def z6:aA "if"=Y:=by decide+kernel
def Rm(h:Wd s)(hr:r∈no3):(s==r)=U:=by
 rw[bc];rintro rfl;exact h.no hr
def QhR(l:Wd G)(D:Wd B):QH [.lst [.str "guess",.str G,.str "unless",.str B]]=Z (.bl Y):=by
 delta QH;ext;rw[show(!0+1+1+1+1==4)=U from rfl];ext;rw[Rc Xm Xm,show(("guess":Str)=="guess")=Y by simp];ext;rw[Rc z0 z0,show(("unless":Str)=="unless")=Y by simp];ext;rw[TX l];ext;rw[TX D];ext
def Qec(l:Wd H){ps:List Str}(B:ps.length<=1000):QH [.lst (.str H::ps.map .str)]=Z (.bl U):=by
 delta QH;ext;cases hc:(!(ps.length+1==4)) with
 |true=>ext
 |false =>
  ext;rw[Rc (BP l.low) Xm,Rm l (by decide+kernel)];ext
def QjH(l:Wd H):QU [.lst [.str H]]=Z (.bl Y):=by
 delta QU;ext;rw[show(0+1==1)=Y from rfl];ext;rw[TX l];ext
def LI{α:Type} x y (l:List α):qL (x::y::l) O (Z ((1:Nat)))=[x]:=by
 rfl
def Rn{α:Type} x y (l:List α):qL (x::y::l) (Z ((2:Nat))) O=l:=by
 rw[Xi];rfl
def QhO(B:Wd H){body:List Str}(D:∀s∈body,Wd s)(I:0<body.length)(L:body.length<=1000):QU [.lst (.str H::.str "if"::body.map .str)]=Z (.bl Y):=by
 delta QU;ext;rw[show(body.length+1+1==1)=U by rw[bc];lia];ext;rw[show(body.length+1+1==2)=U by rw[bc];lia];ext;rw[Rc z6 z6,show(("if":Str)=="if")=Y by simp];ext;rw[LI,Rn,uU (by simp;lia),show [PV.str H]++body.map PV.str=(H::body).map PV.str from rfl];ext;rw[show PV.str H::body.map PV.str=(H::body).map PV.str from rfl];have l:∀s∈H::body,Wd s:=λs hs=>by
  rcases ap.mp hs with rfl | z
  .exact B
  .exact D s z
 generalize H::body=ws at *;ext;rw[Qk PV.str (λ_=>PV.bl Y) _ λs hs=>⟨_,rfl,by
  ext;rw[TX (l s hs)]⟩]
 rw[show(ws.map λ_=>PV.bl Y)=(ws.map λ_=>Y).map PV.bl by rw[aB];rfl];ext;rw[TW,show(ws.map λ_=>Y).all id=Y by simp];rfl
def mtK_s(g:PV->List PV->Option α) q z:K3 "str" g q (.str z)=q.bind (g (.str z)):=rfl
def Wr(h:∀s∈w::ws,32∉s.cps.toList)(l:(aL sp (w::ws)).length<=9000):Yz (.str (aL sp (w::ws))) [.str " "]=Z ((w::ws).map .str):=by
 show(if ((" ").length==0)=U/\(aL sp (w::ws)).length+2<=qy then Z ((eU (aL sp (w::ws)) " ").map PV.str) else O)=_;rw[aw ⟨rfl,Ya (by lia)⟩,show(" ")=sp from rfl,TV w ws h]
def Ws:∀s∈no3,32∉s.cps.toList:=by decide+kernel
def uo:=ac vk (ac @si @mtK_s)
local macro_rules|`(tactic| walk_at "ev")=>`(tactic| try simp (disch:=fail"e") only[tQ,uX,pT,uo])
def Qgo(l:Wd G)(D:Wd B) r:QV [.str (aL sp ["guess",G,"unless",B]),pN r]=Z (.tup [.str "guess",.str G,.str B]):=by
 have h1:=l.l2;have h2:=D.l2;delta QV d_read_row;ext;rw[Wr (λs hs=>by
  simp at hs;rcases hs with rfl | rfl | rfl | rfl
  .exact Ws _ (by decide+kernel)
  .exact Ri l.low
  .exact Ws _ (by decide+kernel)
  .exact Ri D.low) (by
  rw[Qv];have e1:("guess":Str).length=5:=by decide+kernel
  have e2:("unless":Str).length=6:=by decide+kernel
  have e3:sp.length=1:=rfl;simp;lia)]
 ext;rw[QhR l D];ext
def E7:∀{l:List Str},l.Nodup->o5 l=l:=by
 intro l;induction l with
 |nil =>
  intro _;exact rfl
 |cons x l j =>
  intro h;obtain⟨h1,h2⟩:=bL.mp h;unfold o5;rw[j h2];congr 1;rw[je];intro y hy;have:y≠x:=λe=>h1 (e▸hy);simpa using this
def Qme{body:List Str}(h:body.Nodup)(l:body.length<1000):SW [.tup (body.map .str)]=Z (pN body.length):=by
 show(match strs? (body.map PV.str) with
  |some ss=>if ss.length<1000 then Z (PV.int (o5 ss).length) else O
  |none=>O)=_
 rw[L2.PM.strs?_map];show(if body.length<1000 then Z (PV.int (o5 body).length) else O)=_;rw[aw l,E7 h];rfl
def LJ{xs:List PV}:qL xs (Z ((2:Nat))) O=xs.drop 2:=by rw[Xi]
def Qdr{body:List Str} r (B:Yz (.str line) [.str " "]=Z l) (D:QH [.lst l]=Z (.bl U)) (hr:QU [.lst l]=Z (.bl Y))
  (hd:l.drop 2=body.map .str) (I:l[0]?=Z (.str H)) (L:body.Nodup) (M:body.length<=6) (hf:l.all flat=Y):QV [.str line,pN r]=Z (.tup [.str "rule",.str H,.tup (body.map .str)]):=by
 delta QV d_read_row;ext;rw[B];ext;rw[hf];ext;rw[D];ext;rw[hr];ext;rw[LJ,hd];ext;rw[a5 (show ¬6<body.length by lia)];ext;rw[Qme L (by lia)];ext;rw[a5 (cp _)];ext;rw[I];ext
def QjI{H:Str}(l:Wd H) r:QV [.str H,pN r]=Z (.tup [.str "rule",.str H,.tup []]):=by
 have h1:=l.l2;have j :=by
  have:=Wr (λs hs=>by rw[am.mp hs];exact Ri l.low) (by rw[QF];lia);exact this
 exact Qdr r j (Qec l (by simp)) (QjH l) rfl rfl .nil (by simp) rfl
def QhP{H:Str}(l:Wd H){body:List Str}(B:∀s∈body,Wd s)(D:0<body.length)(I:body.Nodup)(L:body.length<=6) r :
  QV [.str (aL sp (H::"if"::body)),pN r]=Z (.tup [.str "rule",.str H,.tup (body.map .str)]):=by
 have j:=Wr (ws := "if"::body) (λs hs=>by
  rcases ap.mp hs with rfl | z
  .exact Ri l.low
  .rcases ap.mp z with rfl | z
   .exact Ws _ (by decide+kernel)
   .exact Ri (B s z).low) (by
  rw[Qv];have e1:("if":Str).length=2:=by decide+kernel
  have e3:sp.length=1:=rfl;have t:=l.l2;have u:=Xg body 12 λs hs=>(B s hs).l2;simp only[aT,ig,aU, e3];lia)
 exact Qdr r j (Qec l (by simp;lia)) (QhO l B D (by lia)) rfl rfl I L (by simp[flat])
def Qit(h1:i<26):oU (.str "abcdefghijklmnopqrstuvwxyz") (pN i)=Z (.str ⟨#[97+i]⟩):=by
 have key:∀i:_root_.Fin 26,rX ("abcdefghijklmnopqrstuvwxyz":Str).cps.toList (i)=Z (97+(i:Nat)):=by decide+kernel
 have:=key ⟨i,h1⟩;show(if "abcdefghijklmnopqrstuvwxyz".length<=qy then (rX ("abcdefghijklmnopqrstuvwxyz":Str).cps.toList i).map (λc=>PV.str ⟨#[c]⟩) else O)=_;rw[aw (Ya (by decide+kernel)),this];rfl
def Wt(I:Nat->oN->Prop) n l (L:I 0 l)
  (step:∀j l,j<n->I j l->∃γ1 B,g (pN j) l=Z γ1/\b γ1=Z (.nx B)/\I (j+1) B):∃D,pQ g b (oO (ai n)) l=Z (.nx D)/\I n D:=by
 obtain⟨D,e,h⟩:=QW pN (λpre l=>I pre.length l) (ai n) (ai n) [] l rfl L (λpre x post l t E=>by
  have H:=congrArg dt t;simp at H;have u:(ai n)[pre.length]?=Z x:=by rw[<-t];simp
  rw[dr (by lia)]at u;cases u;obtain⟨γ1,B,h1,h2,h3⟩:=step pre.length l (by lia) E;exact⟨γ1,B,h1,h2,by simpa using h3⟩)
 rw[ao]at h;exact⟨D,e,h⟩
def Wu c:(⟨#[c]⟩:Str).length=1:=rfl
def Ro(h:i<26):tP ⟨#[97+i]⟩:=λc hc=>by
 simp at hc;omega
def Qms:tP "":=λc hc=>by
 cases hc
local macro_rules|`(tactic| walk_at "ev")=>`(tactic| try simp (disch:=fail"e") only[uo])
def Qlv l {size:Nat} (hs:size<=12):∃s ,ZH [pN l,pN size]=Z (.str s)/\s.length=size/\tP s:=by
 delta ZH;ext;obtain⟨u,e,number,s,s4,rfl,h1,h2⟩:=Wt (g:=oY 4) (b:=XQ) (λj t=>∃(number:Nat)(s:Str)(s4:Slot),t=[.fz (pN number),.fz (pN size),.fz (.str "abcdefghijklmnopqrstuvwxyz"),.fz (.str s),s4]/\s.length=j/\tP s)
  size [.fz (pN l),.fz (pN size),.fz (.str "abcdefghijklmnopqrstuvwxyz"),.fz (.str ""),.un] ⟨l,"",.un,rfl,rfl,Qms⟩ (by
   rintro j t D ⟨number,s,s4,rfl,h1,h2⟩;have hm:(number*69621+1)%2147483647/17%26<26:=bU _ (by decide);refine⟨_,_,rfl,?_,(number*69621+1)%2147483647,s++⟨#[97+(number*69621+1)%2147483647/17%26]⟩,.fz (pN j),rfl,by rw[Qm,Wu];lia,Wq h2 (Ro hm)⟩;delta XQ;generalize B:(number*69621+1)%2147483647/17%26=i at *;ext;rw[B,Qit hm];have:=Wu (97+i);ext)
 rw[e];ext;exact⟨s,rfl,h1,h2⟩
def LK u n:bF O u 1 n=bF (Z ((0:Nat))) u 1 n:=by
 delta bF;grind
def z7 l n:bF l O 1 n=bF l (Z (n)) 1 n:=by
 delta bF;grind
def Rq x {a b:Nat} (B:a<=b) (D:b<=x.length) l u (e:bF l u 1 x.length=bF (Z a) (Z b) 1 x.length) :
  (cw x l u).cps.toList=(x.cps.toList.drop a).take (b-a):=by
 have E:x.cps.toList.length=x.length:=by simp[cE]
 have j:=StrLaws.sliced_plain x B D;have t:=StrLaws.strSliceIndices_plain B D;delta cw;rw[e];split
 .rename_i h;rw[t]at h;simp at h;have h2:a=0:=by lia
  subst h2;rw[gs,di (by lia)]
 .exact j
def nl:Str := "\n"
def Hc:nl=⟨#[10]⟩:=by decide+kernel
open Builtin.Str StrLaws in
def z8(x:Str):eU x nl=(qx 10 x.cps.toList).map λl=>(⟨l.toArray⟩:Str):=by
 have D:x.cps.toList.length=x.length:=by simp[cE]
 have ho:occurrences x nl 0 x.length (x.length+1)=rD 10 x.cps.toList 0:=by
  rw[occ_eq];have:=QkX x 10 (x.length+1) 0 #[] 0 (by omega) (by simp) (au _);rw[<-Hc]at this;simpa using this
 obtain⟨h,t,e1,e2⟩:=QfF x 10 x.cps.toList.length 0 0 (by omega) (au _);rw[gs]at e1 e2;have main:partsFrom x 1 0 (rD 10 x.cps.toList 0)=(qx 10 x.cps.toList).map λl=>(⟨l.toArray⟩:Str):=by
  rw[e2,e1];simp
 delta eU;rw[ho];by_cases j:rD 10 x.cps.toList 0=[]
 .rw[j]at main;have one:[x]=(qx 10 x.cps.toList).map λl=>(⟨l.toArray⟩:Str):=by
   rw[<-main];show [x]=[strSub x 0 x.length];rw[sub_whole]
  rw[j];split
  .exact one
  .rw[aw (show([]:List Nat).isEmpty=Y from rfl)];exact one
 .have u:¬(decide (x.length<nl.length)||decide (cL x<cL nl))=Y:=by
   have k1:cL nl=1:=by decide+kernel
   have k2:1<=cL x:=by delta cL;split;omega;split<;>omega
   have B:nl.length=1:=rfl;have E:0<x.cps.toList.length:=by
    cases L:x.cps.toList with
    |nil=>rw[L]at j;exact absurd rfl j
    |cons _ _=>simp
   rw[k1,B];simp;omega
  rw[aN u,aN (by simpa using j),partsBetween_eq];exact main
def Qhq:∀w ws,(∀s∈w::ws,10∉s.cps.toList)->eU (aL nl (w::ws)) nl=w::ws:=by
 have key:∀w ws,(∀s∈w::ws,10∉s.cps.toList)->qx 10 (aL nl (w::ws)).cps.toList=(w::ws).map λs=>s.cps.toList:=by
  intro w ws;induction ws generalizing w with
  |nil =>
   intro h;rw[QF,Qfx (h w (by simp))];rfl
  |cons v ws j =>
   intro h;rw[Ql];have e:(w++nl++aL nl (v::ws)).cps.toList=w.cps.toList++10::(aL nl (v::ws)).cps.toList:=by
    show(w.cps++nl.cps++(aL nl (v::ws)).cps).toList=_;rw[show nl.cps = #[10] by rw[Hc]];simp
   rw[e,Qik (h w (by simp)),j v λs hs=>h s (ay _ hs)];rfl
 intro w ws h;rw[z8,key w ws h,aB];exact List.map_id' _
inductive Rw where
 |g (a b:Str)
 |r (h:Str) (b:List Str)
noncomputable def Rw.v:Rw->PV
 |.g a b=>.tup [.str "guess",.str a,.str b]
 |.r h b=>.tup [.str "rule",.str h,.tup (b.map .str)]
def Rw.line:Rw->Str
 |.g a b=>aL sp ["guess",a,"unless",b]
 |.r h b=>if b=[] then h else aL sp (h::"if"::b)
def Rw.Ok:Rw->Prop
 |.g a b=>Wd a/\Wd b
 |.r h b=>Wd h/\(∀s∈b,Wd s)/\b.Nodup/\b.length<=6
theorem Ww:("guess ") = "guess"++sp:=by decide+kernel
theorem Wy:(" unless ")=sp++"unless"++sp:=by decide+kernel
def Wz:(" if ")=sp++"if"++sp:=by decide+kernel
theorem E8:aA "rule"=Y:=by decide+kernel
def TY:(("rule":Str)=="guess")=U:=by decide+kernel
theorem Hd:(("guess":Str)=="rule")=U:=by decide+kernel
def z9(h:(ys.map cE).sum+ys.length*x.length<=100000):OL (.str x) [.tup (ys.map .str)]=Z (.str (aL x ys)):=by
 show(match strs? (ys.map PV.str) with
  |some ys=>if (ys.map (λz:Str=>z.length)).sum+ys.length*x.length<=qy then Z (PV.str (aL x ys)) else O
  |none=>O)=_
 rw[L2.PM.strs?_map];exact aw (Ya h)
def pJoin_s(h:(ys.map cE).sum+ys.length*x.length<=100000):xB (.str x) [.lst (ys.map .str)]=Z (.str (aL x ys)):=by
 show(match strs? (ys.map PV.str) with
  |some ys=>if (ys.map (λz:Str=>z.length)).sum+ys.length*x.length<=qy then Z (PV.str (aL x ys)) else O
  |none=>O)=_
 rw[L2.PM.strs?_map];exact aw (Ya h)
def XW(a b:Str):(a++b).length=a.length+b.length:=Qm a b
def Aa a b : "guess "++a++" unless "++b=(Rw.g a b).line:=by
 show _=aL sp ["guess",a,"unless",b];grind[Ql,QF,Ww,Wy,QfY]
def Ab h y ys:h++" if "++aL " " (y::ys)=(Rw.r h (y::ys)).line:=by
 show _=if y::ys=[] then h else aL sp (h::"if"::y::ys);rw[aN (by simp),Ql,Ql,Wz,show(" ")=sp from rfl];simp only[QfY]
def LL{x:Rw}(h:x.Ok):ZO [x.v]=Z (.str x.line):=by
 cases x with
 |g G B =>
  obtain⟨l,t⟩:=h;have h1:=l.l2;have h2:=t.l2;have e1:("guess ":Str).length=6:=by decide+kernel
  have e2:(" unless ":Str).length=8:=by decide+kernel
  delta ZO Rw.v;ext;rw[Xo Xm Xm,show(("guess":Str)=="guess")=Y by simp];ext;rw[qC (by rw[XW];lia)];ext;rw[qC (by rw[XW,XW];lia)];ext;rw[Aa]
 |r H body =>
  obtain⟨u,D,E,I⟩:=h;have h1:=u.l2;have e2:(" if ":Str).length=4:=by decide+kernel
  have e3:(" ":Str).length=1:=by decide+kernel
  have J:=Xg body 12 λs hs=>(D s hs).l2;delta ZO Rw.v;ext;rw[Xo E8 Xm,TY];ext;cases body with
  |nil =>
   ext;rfl
  |cons y ys =>
   rw[show(((y::ys).length)==0)=U from rfl];ext;have j:=z9 (ys:=y::ys) (by rw[e3];lia);rw[aT]at j;rw[j];ext;rw[qC (by
    rw[XW,Qv,e3];lia)]
   ext;rw[Ab]
def WA{x:Rw}(h:x.Ok) r:QV [.str x.line,pN r]=Z x.v:=by
 cases x with
 |g a b=>exact Qgo h.1 h.2 r
 |r H body =>
  obtain⟨j,l,t,u⟩:=h;cases body with
  |nil=>exact QjI j r
  |cons y ys=>exact QhP j l (by simp) t u r
theorem WB l:∀ws,c∈(aL l ws).cps.toList->c∈l.cps.toList\/∃w∈ws,c∈w.cps.toList
 |[],h=>by
  cases h
 |[w],h=>by
  exact .inr ⟨w,by simp,h⟩
 |w::v::ws,h=>by
  rw[Ql]at h;have h:c∈(w.cps++l.cps++(aL l (v::ws)).cps).toList:=h;rw[gO,gO,aS,aS]at h;rcases h with(h | h) | h
  .exact .inr ⟨w,by simp,h⟩
  .exact .inl h
  .rcases WB l (v::ws) h with h|⟨x,j,h⟩
   .exact .inl h
   .exact .inr ⟨x,ay _ j,h⟩
def WC:∀s∈no3,10∉s.cps.toList:=by decide+kernel
def Rr(h:tP s):10∉s.cps.toList:=λz=>by
 have:=h 10 z;lia
def He:10∉sp.cps.toList:=by decide+kernel
def Qlc{x:Rw}(h:x.Ok):10∉x.line.cps.toList:=by
 cases x with
 |g a b =>
  intro z;rcases WB sp _ z with z|⟨w,hw,j⟩
  .exact He z
  .simp at hw;rcases hw with e | e | e | e
   .rw[e]at j;exact WC _ (by decide+kernel) j
   .rw[e]at j;exact Rr h.1.low j
   .rw[e]at j;exact WC _ (by decide+kernel) j
   .rw[e]at j;exact Rr h.2.low j
 |r H body =>
  obtain⟨l,t,_,_⟩:=h;intro z;have z:10∈(if body=[] then H else aL sp (H::"if"::body)).cps.toList:=z;by_cases c:body=[]
  .rw[aw c]at z;exact Rr l.low z
  .rw[aN c]at z;rcases WB sp _ z with z|⟨w,hw,j⟩
   .exact He z
   .rcases ap.mp hw with e | hw
    .rw[e]at j;exact Rr l.low j
    .rcases ap.mp hw with e | hw
     .rw[e]at j;exact WC _ (by decide+kernel) j
     .exact Rr (t w hw).low j
def Rs{x:Rw}(h:x.Ok):1<=x.line.length/\x.line.length<=110:=by
 have e3:sp.length=1:=rfl;cases x with
 |g a b =>
  have h1:=h.1.l2;have h2:=h.2.l2;have e1:("guess":Str).length=5:=by decide+kernel
  have e2:("unless":Str).length=6:=by decide+kernel
  delta Rw.line;rw[Qv];simp;lia
 |r H body =>
  obtain⟨j,l,_,t⟩:=h;have h1:=j.l1;have h2:=j.l2;show 1<=(if body=[] then H else aL sp (H::"if"::body)).length/\(if body=[] then H else aL sp (H::"if"::body)).length<=110;by_cases c:body=[]
  .rw[aw c];lia
  .rw[aN c,Qv];have e1:("if":Str).length=2:=by decide+kernel
   have u:=Xg body 12 λs hs=>(l s hs).l2;simp only[aT,ig,aU, e3];lia
def TZ{α:Type}[DecidableEq α]:∀{l m:List α},l.Nodup->(∀x∈l,x∈m)->l.length<=m.length:=by
 intro l;induction l with
 |nil =>
  intro _ _ _;simp
 |cons x l t =>
  intro m u h;obtain⟨h1,h2⟩:=bL.mp u;have j:=h x (by simp);have:=t h2 λy hy=>(me (λe:y=x=>h1 (e▸hy))).mpr (h y (ay _ hy));rw[kT j]at this;have :=List.length_pos_of_mem j;simp;lia
def Qjr{α:Type}[DecidableEq α]:∀{l m:List α},l.Nodup->m.Nodup->(∀x,x∈l↔x∈m)->l.Perm m:=by
 intro l;induction l with
 |nil =>
  intro m _ _ h;cases m with
  |nil=>exact .refl _
  |cons y m=>exact absurd ((h y).mpr (by simp)) (by simp)
 |cons x l t =>
  intro m u hm h;obtain⟨h1,h2⟩:=bL.mp u;have B :=(h x).mp (by simp);refine .trans (.cons x (t h2 (hm.erase x) λy=>?_)) (i4 B).symm;rw[hm.mem_erase_iff];constructor
  .intro hy;exact⟨λe=>h1 (e▸hy),(h y).mp (ay _ hy)⟩
  .rintro⟨j,hy⟩;rcases ap.mp ((h y).mpr hy) with e | z
   .exact absurd e j
   .exact z
def Ng[BEq α][LawfulBEq α]:∀{xs:List α},y∈o5 xs↔y∈xs:=by
 intro xs;induction xs with
 |nil =>
  simp[o5]
 |cons x xs j =>
  unfold o5;rw[ap,ap,aK,j];by_cases h:y=x
  .simp[h]
  .simp[h]
def Rt[BEq α][LawfulBEq α]:∀xs:List α,(o5 xs).Nodup:=by
 intro xs;induction xs with
 |nil =>
  simp[o5]
 |cons x xs j =>
  unfold o5;rw[bL];refine⟨by simp[aK],eS _ (j)⟩
noncomputable def Rw.isG:Rw->Bool
 |.g _ _=>Y
 |_=>U
def Rw.gp:Rw->Option (Str×Str)
 |.g a b=>Z (a,b)
 |_=>O
def Rw.rp:Rw->Option (Str×List Str)
 |.r h b=>Z (h,b)
 |_=>O
def Rw.ws:Rw->List Str
 |.g a b=>[a,b]
 |.r h b=>h::b
def qQ(p:Str×Str):Rw := .g p.1 p.2
def sd(p:Str×List Str):Rw := .r p.1 p.2
theorem Ac:∀(R:List Rw),R.filter Rw.isG=(R.filterMap Rw.gp).map qQ
 |[]=>rfl
 |.g a b::R=>by
  rw[de (by rfl),cY (by rfl),aT,Ac R];rfl
 |.r h b::R=>by
  rw[cm (by simp[Rw.isG]),dC (by rfl),Ac R]
theorem Ad:∀(R:List Rw),(R.filter λx => !x.isG)=(R.filterMap Rw.rp).map sd
 |[]=>rfl
 |.r a b::R=>by
  rw[de (by rfl),cY (by rfl),aT,Ad R];rfl
 |.g h b::R=>by
  rw[cm (by simp[Rw.isG]),dC (by rfl),Ad R]
def Ae(x:Rw):∃a b,x.v = .tup [.str (if x.isG=Y then "guess" else "rule"),a,b]:=by
 cases x<;>exact⟨_,_,rfl⟩
def WD{R:List Rw}(l:R.length<=1000):QT [.lst (R.map Rw.v),.str "guess"]=Z (.lst ((R.filterMap Rw.gp).map λp=>(qQ p).v)):=by
 delta QT;ext;rw[Pu Rw.v Rw.isG Rw.v R λx j=>by
  obtain⟨a,b,e⟩:=Ae x;refine⟨_,rfl,?_,λ_=>?_⟩
  .rw[e];ext;cases t:x.isG
   .simp;rw[Xo E8 Xm,TY];rfl
   .simp;rw[Xo Xm Xm];simp[uT]
  .ext]
 rw[Ac,aB];rfl
def QiM{R:List Rw}(l:R.length<=1000):QT [.lst (R.map Rw.v),.str "rule"]=Z (.lst ((R.filterMap Rw.rp).map λp=>(sd p).v)):=by
 delta QT;ext;rw[Pu Rw.v (λx => !x.isG) Rw.v R λx j=>by
  obtain⟨a,b,e⟩:=Ae x;refine⟨_,rfl,?_,λ_=>?_⟩
  .rw[e];ext;grind[Xo,E8,uT,Xm,Hd]
  .ext]
 rw[Ad,aB];rfl
def QmP(h:m l=Z (.tup ys)):yM ms i m l=xW ms i l (.tup ys) l[i]?:=by
 show((m l).bind λr=>match r with
  |.tup _=>JD ms i m l
  |_=>JN ms i m l)=_
 rw[h];show(m l).bind (λr=>xW ms i l r l[i]?)=_;rw[h];rfl
def QmQ(h:m l=Z (.lst ys)):yM ms i m l=yb ms i l (.lst ys) l[i]?:=by
 show((m l).bind λr=>match r with
  |.tup _=>JD ms i m l
  |_=>JN ms i m l)=_
 rw[h];show(m l).bind (λr=>yb ms i l r l[i]?)=_;rw[h];rfl
def E9(h:xs.length+ys.length<=100000)(h2:(!ms.contains i)=Y):xW ms i l (.tup ys) (Z (.ow xs))=Z (.nx ((QZ (flat (.tup ys)) ms l).set i (.ow (xs++ys)))):=aw ⟨Wb h,h2⟩
def Fb(h:xs.length+ys.length<=100000)(h2:(!ms.contains i)=Y):yb ms i l (.lst ys) (Z (.ow xs))=Z (.nx ((QZ (flat (.lst ys)) ms l).set i (.ow (xs++ys)))):=aw ⟨Wb h,h2⟩
def WE{R:List Rw}(h:∀x∈R,x.ws.length<=7):(R.flatMap Rw.ws).length<=R.length*7:=by
 induction R with
 |nil=>simp
 |cons x R j =>
  grind
def Af{x:Rw}(h:x.Ok):x.ws.length<=7:=by
 cases x with
 |g a b=>show 2<=7;lia
 |r h b =>
  obtain⟨_,_,_,j⟩:=h;show b.length+1<=7;lia
def Qlq{R:List Rw}(ok:∀x∈R,x.Ok)(I:R.length<=100):Xu [.lst (R.map Rw.v)]=Z (.lst ((R.flatMap Rw.ws).map .str)):=by
 delta Xu;ext;generalize E:PV.lst (R.map Rw.v)=P;obtain⟨t,u,s2,rfl⟩:=QW (g:=oY 2) (b:=Wj) Rw.v
   (λpre l=>∃s2,l=[.fz P,.ow ((pre.flatMap Rw.ws).map .str),s2])
   R R [] [.fz P,.ow [],.un] rfl ⟨.un,rfl⟩ (by
    rintro pre x post l j ⟨s2,rfl⟩;have B :=by
     have:=congrArg dt j;simp at this;omega
    have hw:=WE (R:=pre) λy hy=>Af (ok y (by rw[<-j];simp[hy]));have D:=ok x (by rw[<-j];simp);refine⟨_,_,rfl,?_,.fz x.v,rfl⟩;rw[List.flatMap_append,List.flatMap_cons,List.flatMap_nil,bB];generalize pre.flatMap Rw.ws=W at *;delta Wj;cases x with
    |g a b =>
     delta Rw.v Rw.ws;ext;rw[Zj (by rw[ag];lia) rfl];ext;rw[QmQ (ys:=[.str b]) (by
      ext;rw[Xo Xm Xm,show(("guess":Str)=="guess")=Y by simp];ext)]
     ext;rw[Fb (by simp;lia) rfl];ext;simp
    |r h b =>
     obtain⟨_,_,_,H⟩:=D;delta Rw.v Rw.ws;ext;rw[Zj (by rw[ag];lia) rfl];ext;rw[QmP (ys:=b.map .str) (by
      ext;rw[Xo E8 Xm,TY];ext)]
     ext;rw[E9 (by simp;lia) rfl];ext;simp)
 rw[u];ext
def Qhz(h:ss.length<1000):Ti [.lst (ss.map .str)]=Z (pN (o5 ss).length):=by
 show(match strs? (ss.map PV.str) with
  |some ns=>if ns.length<1000 then Z (PV.int (o5 ns).length) else O
  |none=>O)=_
 rw[L2.PM.strs?_map];show(if ss.length<1000 then Z (PV.int (o5 ss).length) else O)=_;rw[aw h];rfl
def Ag{R:List Rw}{M:List Str}(ok:∀x∈R,x.Ok)(l:R.length<=100)(h1:(R.filterMap Rw.gp).length<=8)(h2:(R.filterMap Rw.rp).length<=40)(B:M.length<=30)(h3:∀x∈R,∀w∈x.ws,w∈M) :
  ZL [.lst (R.map Rw.v)]=Z (.bl U):=by
 have hw:=WE λy hy=>Af (ok y hy);have ho :=aY (TZ (Rt _) λw hw=>by
  obtain⟨x,j,hw⟩:=iF.mp (Ng.mp hw);exact h3 x j w hw) B
 delta ZL;ext;rw[WD (by lia)];ext;rw[a5 (show ¬8<(R.filterMap Rw.gp).length by lia)];ext;rw[QiM (by lia)];ext;rw[a5 (show ¬40<(R.filterMap Rw.rp).length by lia)];ext;rw[Qlq ok l];ext;rw[Qhz (by lia)];ext;rw[a5 (show ¬30<(o5 (R.flatMap Rw.ws)).length by lia)]
def Rw.key:Rw->PV
 |.g a _=>.tup [.str "guess",.str a]
 |.r h b=>.tup [.str "rule",.str h,.tup ((QA b).map .str)]
def WF(h:ss.length<64):M8 [.tup (ss.map .str)]=Z ((QA ss).map .str):=by
 show(match strs? (ss.map PV.str) with
  |some ss=>if ss.length<64 then Z ((QA ss).map PV.str) else O
  |none=>O)=_
 rw[L2.PM.strs?_map];exact aw h
def Ah{x:Rw}(h:x.Ok):Yf [x.v]=Z x.key:=by
 cases x with
 |g a b =>
  delta Yf;delta Rw.v;ext;rw[Xo Xm Xm,show(("guess":Str)=="guess")=Y by simp];ext;rfl
 |r H b =>
  obtain⟨_,_,_,j⟩:=h;delta Yf;delta Rw.v;ext;rw[Xo E8 Xm,TY];ext;rw[WF (by lia)];ext;rfl
def Rw.sim:Rw->Rw->Prop
 |.g a _,.g c _=>a=c
 |.r h b,.r k c=>h=k/\QA b=QA c
 |_,_=>False
theorem QfE:∀{a b:List Str},pP (a.map PV.str) (b.map .str)=Y->a=b
 |[],[],_=>rfl
 |[],_::_,h=>by cases h
 |_::_,[],h=>by cases h
 |x::a,y::b,h=>by
  have h:((x==y)&&pP (a.map PV.str) (b.map .str))=Y:=h;rw[aQ]at h;rw[lX h.1,QfE h.2]
def Fc{x y:Rw}(h:peq x.key y.key=Y):x.sim y:=by
 cases x with
 | g a b=>cases y with
  |g c d =>
   have h:(("guess"=="guess")&&((a==c)&&Y))=Y:=h;simp at h;exact h
  |r k c =>
   have h:(("guess"=="rule")&&((a==k)&&U))=Y:=h;simp at h
 | r j b=>cases y with
  |g c d =>
   have h:(("rule"=="guess")&&((j==c)&&U))=Y:=h;simp at h
  |r k c =>
   have h:(("rule"=="rule")&&((j==k)&&(pP ((QA b).map .str) ((QA c).map .str)&&Y)))=Y:=h;simp at h;exact⟨h.1,QfE h.2⟩
def QiO:∀{ss:List Str},(∀s∈ss,aA s=Y)->p7 (ss.map PV.str)=0/\rK (ss.map PV.str)=Y:=by
 intro ss;induction ss with
 |nil =>
  intro _;simp[p7,rK]
 |cons s ss j =>
  intro h;have l:=j λx t=>h x (ay _ t);have h1:=h s (by simp);simp[p7,rK,pH,vd,l.1,l.2,h1]
def Ai{x:Rw}(h:x.Ok):p9 x.key=Y:=by
 cases x with
 |g a b=>simp[Rw.key,p9,pH,p7,vd,rK,BP h.1.low,Xm]
 |r H b =>
  obtain⟨j,l,_,_⟩:=h;have:=QiO λs hs=>BP (l s ((Qj b).mem_iff.mp hs)).low;simp[Rw.key,p9,pH,p7,vd,rK,BP j.low,E8,this.1,this.2]
structure Gd (R:List Rw) (M:List Str):Prop where
 ok:∀x∈R,x.Ok
 pw:R.Pairwise λx y=>¬x.sim y
 ng:(R.filterMap Rw.gp).length<=8
 nr:(R.filterMap Rw.rp).length<=40
 nM:M.length<=30
 ws:∀x∈R,∀w∈x.ws,w∈M
 hd:∀p∈R.filterMap Rw.rp,p.1∉(R.filterMap Rw.gp).map (·.1)
theorem WG:∀R:List Rw,R.length=(R.filterMap Rw.gp).length+(R.filterMap Rw.rp).length
 |[]=>rfl
 |.g a b::R=>by
  rw[cY (by rfl),dC (by rfl),aU,aU,WG R];lia
 |.r a b::R=>by
  rw[dC (by rfl),cY (by rfl),aU,aU,WG R];lia
def Gd.len(h:Gd R M):R.length<=48:=by
 have:=WG R;have:=h.ng;have:=h.nr;lia
def Aj{R:List Rw}(l:x.Ok)(hR:∀y∈R,y.Ok)(hs:∀y∈R,¬y.sim x):qK x.key (.lst (R.map Rw.key))=Z (.bl U):=by
 have h1:(R.map Rw.key).all p9=Y:=by
  rw[eR,aX];intro y hy;exact Ai (hR y hy)
 have h2:((R.map Rw.key).any λy=>peq y x.key)=U:=by
  rw[gS,eQ];intro y hy e;exact hs y hy (Fc e)
 show(if p9 x.key=Y/\(R.map Rw.key).all p9=Y then Z (PV.bl ((R.map Rw.key).any λy=>peq y x.key)) else O)=_;rw[aw ⟨Ai l,h1⟩,h2]
def LM{R:List Rw}{M:List Str}(G:Gd R M):XG [.lst (R.map λx=>.str x.line)]=Z (.lst (R.map Rw.v)):=by
 have E:=G.len;delta XG;ext;generalize zy:PV.lst (R.map λx=>PV.str x.line)=P;have H:((R.map λx=>PV.str x.line).zipIdx.map λx=>PV.tup [pN x.2,x.1])=R.zipIdx.map λp=>PV.tup [pN p.2,.str p.1.line]:=by
  rw[iT,aB];rfl
 rw[H];obtain⟨I,J,s2,s3,s4,rfl⟩:=QW (g:=ZQ 2 3) (b:=Wk) (λp=>PV.tup [pN p.2,.str p.1.line])
   (λpre B=>∃s2 s3 s4,B=[.fz P,.ow ((pre.map (·.1)).map Rw.v),s2,s3,s4])
   R.zipIdx R.zipIdx [] [.fz P,.ow [],.un,.un,.un] rfl ⟨.un,.un,.un,rfl⟩ (by
    rintro pre x post B l ⟨s2,s3,s4,rfl⟩;have hR :=by
     have:=congrArg (List.map (·.1)) l;simpa using this
    obtain⟨x,n⟩:=x;have e1:(pre++[(x,n)]).map (·.1)=pre.map (·.1)++[x]:=by simp
    rw[e1];generalize pre.map (·.1)=Q at *;generalize post.map (·.1)=T at *;subst hR;have t:=G.ok x (by simp);have D:∀y∈Q,y.Ok:=λy hy=>G.ok y (by simp[hy]);have hs :=λy hy=>(eM.mp G.pw).2.2 y hy x (by simp);have L:Q.length<=48:=by
     rw[a0]at E;lia
    have zx:ZL [.lst (Q.map Rw.v++[x.v])]=Z (.bl U):=by
     have e:Q.map Rw.v++[x.v]=(Q++[x]).map Rw.v:=by simp
     rw[e];have k1:=G.ng;have k2:=G.nr;rw[show Q++x::T=(Q++[x])++T by simp,List.filterMap_append,a0]at k1 k2;refine Ag (M:=M) (λy hy=>G.ok y ?_) (by simp;lia) (by lia) (by lia) G.nM λy hy w hw=>G.ws y ?_ w hw
     .rcases aS.mp hy with z | z
      .simp[z]
      .simp[am.mp z]
     .rcases aS.mp hy with z | z
      .simp[z]
      .simp[am.mp z]
    have j:flat x.v=U:=by cases x<;>rfl
    have zw:=Aj t D hs;have he:=Ah t;have u:=WA t n;refine⟨_,_,rfl,?_,.fz (pN n),.fz (.str x.line),.fz x.v,rfl⟩;delta Wk;ext;rw[u];ext;rw[j];ext;rw[he];ext;rw[Qk Rw.v Rw.key Q λy hy=>⟨_,rfl,by
     ext;rw[Ah (D y hy)]⟩]
    ext;rw[zw];ext;rw[Zj (by rw[ag];lia) (by rw[j];rfl),j];ext;rw[zx];ext;simp)
 rw[J,jc];ext
abbrev Gp:=Str×Str
abbrev Rp:=Str×List Str
def GN(l:List Gp):List Str:=l.map (·.1)
def Nh(l:List Gp)(rs:List Rp):List Str:=(l.flatMap λp=>[p.1,p.2])++rs.flatMap λp=>p.1::p.2
def nm(l:List Gp)(rs:List Rp):List Str:=QA (GN l)++QA ((o5 (Nh l rs)).filter λj=>decide (j∉GN l))
def Qhp(h:a.Perm b):QA a=QA b:=M1 ((Qj a).trans h) (Ox a)
def Ni:w∈Nh l rs↔(∃p∈l,w=p.1\/w=p.2)\/∃p∈rs,w=p.1\/w∈p.2:=by
 delta Nh;simp
def WH{R:List Rw}:w∈R.flatMap Rw.ws↔w∈Nh (R.filterMap Rw.gp) (R.filterMap Rw.rp):=by
 rw[Ni,iF];constructor
 .rintro⟨x,j,hw⟩;cases x with
  |g a b =>
   have hw:w∈[a,b]:=hw;refine .inl ⟨(a,b),bR.mpr ⟨_,j,rfl⟩,by simpa using hw⟩
  |r h b =>
   have hw:w∈h::b:=hw;exact .inr ⟨(h,b),bR.mpr ⟨_,j,rfl⟩,by simpa using hw⟩
 .rintro(⟨p,l,hw⟩|⟨p,l,hw⟩)
  .obtain⟨x,j,e⟩:=bR.mp l;cases x with
   |g a b =>
    cases e;exact⟨_,j,by show w∈[a,b];simpa using hw⟩
   |r h b=>cases e
  .obtain⟨x,j,e⟩:=bR.mp l;cases x with
   |g a b=>cases e
   |r h b =>
    cases e;exact⟨_,j,by show w∈h::b;simpa using hw⟩
def Fd(R:List Rw):QA (GN (R.filterMap Rw.gp))++QA ((o5 (R.flatMap Rw.ws)).filter λj=>decide (j∉GN (R.filterMap Rw.gp)))=nm (R.filterMap Rw.gp) (R.filterMap Rw.rp):=by
 congr 1;refine Qhp (Qjr ((Rt _).filter _) ((Rt _).filter _) λx=>?_);rw[aK,aK,Ng,Ng,WH]
def Qhy{a b:List Str}(h1:a.length<1000)(h2:b.length<1000)(h3:(o5 a).length<64):Th [.lst (a.map .str)] [.lst (b.map .str)]=Z ((QA ((o5 a).filter λj=>decide (j∉b))).map .str):=by
 show(match strs? (a.map PV.str),strs? (b.map PV.str) with
  |some ns,Z ks=>if ns.length<1000/\ks.length<1000/\(o5 ns).length<64 then Z ((QA ((o5 ns).filter λj=>decide (j∉ks))).map PV.str) else O
  |_,_=>O)=_
 rw[L2.PM.strs?_map,L2.PM.strs?_map];exact aw ⟨h1,h2,h3⟩
def qD B D l:VQ B D l=(B l).bind λx=>(D l).bind λy=>Th x y:=rfl
def Ru{R:List Rw}(ok:∀x∈R,x.Ok):∀s∈GN (R.filterMap Rw.gp),aA s=Y:=by
 intro s hs;obtain⟨p,j,rfl⟩:=aO.mp hs;obtain⟨x,l,e⟩:=bR.mp j;cases x with
 |g a b=>cases e;exact BP (ok _ l).1.low
 |r h b=>cases e
local macro_rules|`(tactic| walk_at "ev")=>`(tactic| try simp (disch:=fail"e") only[qD,uo])
def QiN{R:List Rw}(l:R.length<=1000) B (h:qr B 0=Z (.lst (R.map Rw.v))):Qo (pG (Qb QT (Qa (nP 0) (Qa (mC (.str "guess")) oK)))) 1 [] (oY 0) Qw (oJ oU (nP 0) (mN 1)) B=Z ((GN (R.filterMap Rw.gp)).map .str):=by
 have j:(R.filterMap Rw.gp).length<=1000:=aY (ij _ _) l;ext;rw[h];ext;rw[WD l];ext;rw[Qk (λp=>(qQ p).v) (λp=>PV.str p.1) _ λp t=>⟨_,rfl,by
  delta qQ Rw.v;ext⟩]
 delta GN;rw[aB];rfl
def vm ms m l:vJ ms m l=(m l).map λr=>.nx (QZ (flat r) ms l):=rfl
def Ak(G:Gd R M):ZR [.lst (R.map Rw.v)]=Z .non:=by
 have I:=G.len;have u:=QiN (by lia) [.fz (.lst (R.map Rw.v)),.un,.un,.un] rfl;have l:=Ru G.ok;delta ZR;rw[uV,rq];simp;rw[tN,sC,u];ext;generalize J:PV.lst (R.map Rw.v)=P;have B:((R.map Rw.v).zipIdx.map λx=>PV.tup [pN x.2,x.1])=R.zipIdx.map λp=>PV.tup [pN p.2,p.1.v]:=by
  rw[iT,aB];rfl
 rw[B];obtain⟨D,E,s2,s3,rfl⟩:=QW (g:=ZQ 2 3) (b:=YC) (λp=>PV.tup [pN p.2,p.1.v])
   (λpre t=>∃s2 s3,t=[.fz P,.ow ((GN (R.filterMap Rw.gp)).map .str),s2,s3])
   R.zipIdx R.zipIdx [] [.fz P,.ow ((GN (R.filterMap Rw.gp)).map .str),.un,.un] rfl ⟨.un,.un,rfl⟩ (by
    rintro pre x post t j ⟨s2,s3,rfl⟩;have hR :=by
     have:x∈R.zipIdx:=by rw[<-j];simp
     have:=List.mem_map_of_mem (f:=(·.1)) this;rw[jc]at this;exact this
    obtain⟨x,n⟩:=x;refine⟨_,_,rfl,?_,.fz (pN n),.fz x.v,rfl⟩;delta YC;have H:=G.ok x hR;cases x with
    |g a b =>
     delta Rw.v;ext;rw[Xo Xm E8,Hd];ext
    |r h b =>
     delta Rw.v;ext;rw[Xo E8 E8,show(("rule":Str)=="rule")=Y by simp];ext;rw[zW (BP H.1.low) l];have:(GN (R.filterMap Rw.gp)).any (·==h)=U:=by
      rw[eQ];intro y hy e;exact G.hd (h,b) (bR.mpr ⟨_,hR,rfl⟩) (by rw[<-lX e];exact hy)
     rw[this];ext)
 rw[E];ext
def Fe(G:Gd R M):TB [.lst (R.map Rw.v)]=Z (.tup ((nm (R.filterMap Rw.gp) (R.filterMap Rw.rp)).map .str)):=by
 have u:=G.len;have j:=QiN (by lia) [.fz (.lst (R.map Rw.v)),.un] rfl;have B:=G.ng;have l:(GN (R.filterMap Rw.gp)).length<=8:=by grind[GN]
 have hw:=WE λy hy=>Af (G.ok y hy);have ho :=aY (TZ (Rt _) λw hw=>by
  obtain⟨x,t,hw⟩:=iF.mp (Ng.mp hw);exact G.ws x t w hw) G.nM
 delta TB;rw[uV,rq];simp;rw[tN,sC,j];ext;rw[E4 (by lia)];ext;rw[Qlq G.ok (by lia)];ext;rw[Qhy (by lia) (by lia) (by lia)];ext;rw[uU (by grind[QlR]),<-bw,Fd];ext
def sF(G:List Str)(x y:Str):Prop:=(x∈G/\y∉G)\/((x∈G↔y∈G)/\rN x y=Y)
def Qmj(h1:sF G x y)(h2:sF G y x):x=y:=by
 rcases h1 with⟨a,b⟩|⟨a,b⟩
 .rcases h2 with⟨c,_⟩|⟨c,_⟩
  .exact absurd c b
  .exact absurd (c.mpr a) b
 .rcases h2 with⟨c,d⟩|⟨_,d⟩
  .exact absurd (a.mpr c) d
  .exact Vt b d
def Qiv(h1:∀x∈l1,x∈G)(h2:∀x∈l2,x∉G):(QA l1++QA l2).Pairwise (sF G):=by
 rw[eM];have l :=λx j=>h1 x ((Qj l1).mem_iff.mp j);have t :=λx j=>h2 x ((Qj l2).mem_iff.mp j);refine⟨?_,?_,λx j y hy=>.inl ⟨l x j,t y hy⟩⟩
 .refine(Ox l1).imp_of_mem λ{x y} j hy e=>.inr ⟨⟨λ_=>l y hy,λ_=>l x j⟩,e⟩
 .refine(Ox l2).imp_of_mem λ{x y} j hy e=>.inr ⟨⟨λz=>absurd z (t x j),λz=>absurd z (t y hy)⟩,e⟩
def Al l rs:(nm l rs).Pairwise (sF (GN l)):=Qiv (λ_ h=>h) λx j=>by
 have:=(aK.mp j).2;simpa using this
def Am{N G:List Str}(B:N.Pairwise (sF G))(D:x∈N)(hy:y∈N)(h:sF G x y):N.idxOf x<=N.idxOf y:=by
 apply b5;intro c;have l:=bH.mpr D;have j:=bH.mpr hy;have:=eF.mp B (N.idxOf y) (N.idxOf x) j l (by lia);rw[ft j,ft l]at this;have e:=Qmj h this;rw[e]at c;lia
def T0(h:w∈Nh l rs):w∈nm l rs:=by
 unfold nm;rw[aS,(Qj _).mem_iff,(Qj _).mem_iff,aK,Ng];by_cases c:w∈GN l
 .exact .inl c
 .exact .inr ⟨h,by simpa using c⟩
def sT(G b:List Str):List Str:=QA (b.filter λw=>decide (w∈G))++QA (b.filter λw=>decide (w∉G))
def YQ G b:(sT G b).Perm b:=by
 refine((Qj _).append (Qj _)).trans ?_;have h:=List.filter_append_perm (λw=>decide (w∈G)) b;refine .trans (.of_eq ?_) h;congr 1;refine nC λx _=>?_;simp
def Qiw G b:(sT G b).Pairwise (sF G):=Qiv (λx j=>by simpa using (aK.mp j).2) λx j=>by simpa using (aK.mp j).2
def An{N G b:List Str}(l:N.Pairwise (sF G))(B:∀w∈b,w∈N):(Xk (b.map λw=>((N.idxOf w)))).map PV.int=oO ((sT G b).map N.idxOf):=by
 have hm :=λw hw=>B w ((YQ G b).mem_iff.mp hw);have e:=Vr (ms:=(sT G b).map λw=>((N.idxOf w))) ((YQ G b).map _) (by
  rw[fD];refine(Qiw G b).imp_of_mem λ{x y} j hy h=>?_;have:=Am l (hm x j) (hm y hy) h;lia)
 rw[<-e];delta oO;rw[aB,aB];rfl
def Yi{N:List Str}(h:w∈N):ZF (.tup (N.map .str)) [.str w]=Z (pN (N.idxOf w)):=by
 show(match strs? (N.map PV.str) with
  |some ns=>if w∈ns then Z (PV.int (ns.idxOf w)) else O
  |none=>O)=_
 rw[L2.PM.strs?_map];exact aw h
def tpK(g:PV->List PV->Option PV)(q:Option (List PV))(p:PV):Option PV:=if Tk p=Y then q.bind (g p) else O
def qV g m B l:rQ g m B l=(m l).bind (tpK g (B l)):=rfl
def tp g q (N:List Str):tpK g q (.tup (N.map .str))=q.bind (g (.tup (N.map .str))):=by
 cases N<;>rfl
def rV(f:Str->Nat)(p:Rp):PV := .tup [pN (f p.1),.tup (oO (p.2.map f))]
local macro_rules|`(tactic| walk_at "ev")=>`(tactic| try simp (disch:=fail"e") only[qD,qV,tp,uo])
def QmU{N G:List Str}(B:N.Pairwise (sF G))(D:h∈N)(l:∀w∈b,w∈N)(I:b.length<64):ZS [.tup (N.map .str),(Rw.r h b).v]=Z (rV N.idxOf (h,sT G b)):=by
 have e1:=Yi D;have e2:=An B l;delta ZS Rw.v rV;ext;rw[Qk PV.str (λw=>PV.int ((N.idxOf w))) _ λw hw=>⟨_,rfl,by
  ext;rw[Yi (l w hw)];rfl⟩]
 rw[show(b.map λw=>PV.int ((N.idxOf w)))=(b.map λw=>((N.idxOf w):Int)).map PV.int by rw[aB];rfl];ext;rw[E5 (by rw[ag];exact I),e2];ext;rw[e1];ext
def tr(p:Gp):sS:=("guess",p.1,p.2)
def rg(l:List Gp):List Gp:=(BN (l.map tr)).map λt=>(t.2.1,t.2.2)
def QkJ l:BN (l.map tr)=(rg l).map tr:=by
 delta rg;rw[aB];have h:∀t∈BN (l.map tr),(tr∘λt=>(t.2.1,t.2.2)) t=id t:=λt j=>by
  obtain⟨p,_,rfl⟩:=aO.mp ((Tn _).mem_iff.mp j);rfl
 rw[dX h,mf]
def Xq l:(rg l).Perm l:=by
 refine((Tn _).map _).trans ?_;rw[aB];exact .of_eq (List.map_id'' (λ_=>rfl) _)
def Ff l:(l.map tr).map (·.2.1)=GN l:=by
 rw[aB];rfl
def Qmd(B:(GN l).Nodup)(D:l.length<64):To [.lst (l.map λp=>(qQ p).v)]=Z ((rg l).map λp=>(qQ p).v):=by
 have e:(l.map λp=>(qQ p).v)=(l.map tr).map rf:=by rw[aB];rfl
 rw[e];show(match O9 ((l.map tr).map rf) with
  |some j=>if j.length<64 then (if yS j then Z ((BN j).map rf) else O) else O
  |none=>O)=_
 rw[QlN];show(if (l.map tr).length<64 then (if yS (l.map tr) then Z ((BN (l.map tr)).map rf) else O) else O)=_;have h1:∀t∈l.map tr,t.1=((l.map tr).getD 0 rn).1:=λt u=>by
  obtain⟨p,E,rfl⟩:=aO.mp u;cases l with
  |nil=>cases E
  |cons q l=>rfl
 rw[aw (by rw[ag];exact D),aw ⟨h1,by rw[Ff];exact B⟩,QkJ,aB];rfl
def LN(f:Str->Nat)(n:Nat)(l:List Gp)(rs:List Rp):PV := .tup [pN n,.tup (oO (l.map λp=>f p.2)),.tup (rs.map (rV f))]
def qM(G:List Str)(rs:List Rp):List Rp:=rs.map λp=>(p.1,sT G p.2)
def LO k a b s2 s3 s4:QZ k [1] [.fz a,.fz b,s2,s3,s4]=[.fz a,.fz b,s2,s3,s4]:=by
 cases k<;>rfl
def Ao(h:p∈l):p.1∈nm l rs/\p.2∈nm l rs:=⟨T0 (Ni.mpr (.inl ⟨p,h,.inl rfl⟩)),T0 (Ni.mpr (.inl ⟨p,h,.inr rfl⟩))⟩
def Rv(h:p∈rs):p.1∈nm l rs/\∀w∈p.2,w∈nm l rs:=⟨T0 (Ni.mpr (.inr ⟨p,h,.inl rfl⟩)),λw hw=>T0 (Ni.mpr (.inr ⟨p,h,.inr hw⟩))⟩
def Rx{R:List Rw}(pw:R.Pairwise λx y=>¬x.sim y):(GN (R.filterMap Rw.gp)).Nodup:=by
 induction R with
 |nil=>exact .nil
 |cons x R j =>
  obtain⟨h1,h2⟩:=b0.mp pw;cases x with
  |r h b=>rw[dC (by rfl)];exact j h2
  |g a b =>
   rw[cY (b:=(a,b)) (by rfl)];show(a::GN (R.filterMap Rw.gp)).Nodup;rw[bL];refine⟨λl=>?_,j h2⟩;obtain⟨p,t,e⟩:=aO.mp l;obtain⟨x,u,e2⟩:=bR.mp t;cases x with
   |g c d =>
    cases e2;exact h1 _ u e.symm
   |r h b=>cases e2
def Gd.gnd{R:List Rw}{M:List Str}(G:Gd R M):(GN (R.filterMap Rw.gp)).Nodup:=Rx G.pw
def Gd.rb(G:Gd R M)(l:p∈R.filterMap Rw.rp):(sd p).Ok:=by
 obtain⟨x,j,e⟩:=bR.mp l;cases x with
 |g c d=>cases e
 |r h b=>cases e;exact G.ok _ j
local macro_rules|`(tactic| walk_at "ev")=>`(tactic| try simp (disch:=fail"e") only[qD,qV,tp,vm,uo])
def QmV{R:List Rw}{M:List Str}(G:Gd R M):ZT [.tup ((nm (R.filterMap Rw.gp) (R.filterMap Rw.rp)).map .str),.lst (R.map Rw.v)] =
  Z (LN (nm (R.filterMap Rw.gp) (R.filterMap Rw.rp)).idxOf (nm (R.filterMap Rw.gp) (R.filterMap Rw.rp)).length (rg (R.filterMap Rw.gp)) (qM (GN (R.filterMap Rw.gp)) (R.filterMap Rw.rp))):=by
 have L:=G.len;have zy:=G.ng;have E:=G.nr;have t:=G.gnd;have u:=λp j=>G.rb (p:=p) j;have B:=WD (R:=R) (by lia);have D:=QiM (R:=R) (by lia);generalize R.filterMap Rw.gp=l at *;generalize R.filterMap Rw.rp=rs at *;have H:=Al l rs;have I:∀p∈l,p.2∈nm l rs:=λp j=>(Ao j).2;have hR:∀p∈rs,p.1∈nm l rs/\∀w∈p.2,w∈nm l rs:=λp j=>Rv j;generalize nm l rs=N at *;have J :=(Xq l).length_eq;delta ZT;ext;rw[B];ext;rw[Qmd t (by lia)];ext;rw[LO];ext;rw[Qk (λp=>(qQ p).v) (λp=>pN (N.idxOf p.2)) _ λp j=>⟨_,rfl,by
  have:=I p ((Xq l).mem_iff.mp j);delta qQ Rw.v;ext;rw[Yi this]⟩]
 ext;rw[D];ext;rw[Qk (λp=>(sd p).v) (λp=>rV N.idxOf (p.1,sT (GN l) p.2)) _ λp j=>⟨_,rfl,by
  have:=hR p j;obtain⟨_,_,_,T⟩:=u p j;ext;rw[show sd p=Rw.r p.1 p.2 from rfl,QmU H this.1 this.2 (by lia)]⟩]
 ext;delta LN oO qM;rw[aB,aB];rfl
def Ry(l:List Gp)(rs:List Rp):PV := .tup [.tup ((nm l rs).map .str),LN (nm l rs).idxOf (nm l rs).length (rg l) (qM (GN l) rs)]
def Qlu(G:Gd R M):Zg [.lst (R.map λx=>.str x.line)]=Z (Ry (R.filterMap Rw.gp) (R.filterMap Rw.rp)):=by
 have e1:=LM G;have e2:=Ak G;have e3:=Fe G;have j:=QmV G;delta Zg Ry;ext;rw[e1];ext;rw[e2];ext;rw[e3];ext;rw[j];ext
def Qig{R:List Rw}(ok:∀x∈R,x.Ok)(B:R.length<=60):(aL nl (R.map Rw.line)).length<=9000:=by
 rw[Qv];have e3:nl.length=1:=rfl;have j:=Xg (R.map Rw.line) 110 λs hs=>by
  obtain⟨x,l,rfl⟩:=aO.mp hs;exact(Rs (ok x l)).2
 rw[ag]at j |-;rw[e3];lia
def Hf(h:x.length<=100000):CK (.str x)=Z (!(x.length==0)):=by
 show(if x.length<=qy then Z ((x.length:Int) != 0) else O)=_;rw[aw (Ya h)];congr 1;grind
def Qcj(h:∀s∈w::ws,10∉s.cps.toList)(l:(aL nl (w::ws)).length<=9000):Yz (.str (aL nl (w::ws))) [.str "\n"]=Z ((w::ws).map .str):=by
 show(if ("\n".length==0)=U/\(aL nl (w::ws)).length+2<=qy then Z ((eU (aL nl (w::ws)) "\n").map PV.str) else O)=_;rw[aw ⟨rfl,Ya (by lia)⟩,show "\n"=nl from rfl,Qhq w ws h]
def Qif(h:1<=w.length):1<=(aL nl (w::ws)).length:=by
 cases ws with
 |nil=>exact h
 |cons v ws =>
  rw[Ql,Qm,Qm];lia
def WI{R:List Rw}(ok:∀x∈R,x.Ok)(l:R.length<=60):ZE [.str (aL nl (R.map Rw.line))]=Z (.lst (R.map λx=>.str x.line)):=by
 have tl:=Qig ok l;delta ZE;cases R with
 |nil =>
  rw[fr,XX];ext;rw[Hf (by decide+kernel),show(!(("":Str).length==0))=U by decide+kernel];ext
 |cons x R =>
  have t:=Qif (ws:=R.map Rw.line) (Rs (ok x (by simp))).1;have j:=Qcj (λs hs=>by
   obtain⟨y,hy,rfl⟩:=aO.mp (show s∈(x::R).map Rw.line from hs);exact Qlc (ok y hy)) tl
  rw[aT]at tl |-;generalize aL nl (x.line::R.map Rw.line)=T at *;ext;rw[Hf (by lia),show(!(T.length==0))=Y by simp;lia];ext;rw[j];ext;simp
def LP{R:List Rw}{M:List Str}(G:Gd R M):YT [.str (aL nl (R.map Rw.line))]=Z (Ry (R.filterMap Rw.gp) (R.filterMap Rw.rp)):=by
 have l:=G.len;have e1:=WI G.ok (by lia);have e2:=Qlu G;delta YT;ext;rw[e1];ext;rw[e2];ext
def T1{N:List Str}{i:Nat}(h:N[i]?=Z w):(N.map PV.str)[i]?=Z (.str w):=by rw[aI,h];rfl
def Qlr{N:List Str}{f:Str->Nat}{h:Str}{b:List Str}(ok:(Rw.r h b).Ok)(B:N[f h]?=Z h)(D:∀w∈b,N[f w]?=Z w):QQ [.tup (N.map .str),rV f (h,b)]=Z (.str (Rw.r h b).line):=by
 obtain⟨H,hw,J,t⟩:=ok;have l:=T1 B;have h1:=H.l2;have e2:(" if ":Str).length=4:=by decide+kernel
 have e3:(" ":Str).length=1:=by decide+kernel
 have L:=Xg b 12 λs hs=>(hw s hs).l2;delta QQ rV;cases b with
 |nil =>
  ext;rw[show oO []=[] from rfl];ext;rw[show(!![].isEmpty)=Y from rfl];ext;rw[l];ext;rfl
 |cons y ys =>
  have j:(oO ((y::ys).map f)).isEmpty=U:=rfl;have u:oO ((y::ys).map f)=(y::ys).map λw=>pN (f w):=by delta oO;rw[aB];rfl
  have M:ys.length+1<=6:=t;generalize hE:oO ((y::ys).map f)=E at *;ext;rw[j,show(!!false)=U from rfl];ext;rw[l];ext;rw[u];ext;rw[show(pN (f y)::ys.map λw=>pN (f w))=(y::ys).map λw=>pN (f w) from rfl,Qk (λw=>pN (f w)) PV.str _ λw hw=>⟨_,rfl,by
   have:=T1 (D w hw);ext;rw[this]⟩]
  have I:=pJoin_s (ys:=y::ys) (by rw[e3];lia);ext;rw[show(PV.str y::ys.map PV.str)=(y::ys).map PV.str from rfl,I];ext;rw[qC (by
   rw[XW,Qv,e3];lia)]
  ext;rw[Ab]
def Ap{N:List Str}(ok:(Rw.g a b).Ok)(l:N[i]?=Z a)(B:N[j]?=Z b):YH [.tup (N.map .str),pN i,pN j]=Z (.str (Rw.g a b).line):=by
 have h1:=ok.1.l2;have h2:=ok.2.l2;have t:=T1 l;have u:=T1 B;have e1:("guess ":Str).length=6:=by decide+kernel
 have e2:(" unless ":Str).length=8:=by decide+kernel
 delta YH;ext;rw[t];ext;rw[qC (by rw[XW];lia)];ext;rw[u];ext;rw[qC (by rw[XW,XW];lia)];ext;rw[Aa]
def Fg(l:List Gp)(rs:List Rp):List Rw:=l.map qQ++rs.map sd
def QiT(l:∀p∈B,(qQ p).Ok)(hr:∀p∈rs,(sd p).Ok):∀x∈Fg B rs,x.Ok:=by
 intro x t;rcases aS.mp t with h | h
 .obtain⟨p,j,rfl⟩:=aO.mp h;exact l p j
 .obtain⟨p,j,rfl⟩:=aO.mp h;exact hr p j
def Fh{N:List Str}{f:Str->Nat}{n:Nat}{l:List Gp}{rs:List Rp}(B:∀p∈l,(qQ p).Ok)(D:∀p∈rs,(sd p).Ok)(zy:l.length<=8)(T:rs.length<=40)(I:∀(i:Nat) p,l[i]?=Z p->N[i]?=Z p.1)(L:∀p∈l,N[f p.2]?=Z p.2)(M:∀p∈rs,N[f p.1]?=Z p.1)(hw:∀p∈rs,∀w∈p.2,N[f w]?=Z w) :
  Zf [.tup (N.map .str),LN f n l rs]=Z (.str (aL nl ((Fg l rs).map Rw.line))):=by
 have t:((oO (l.map λp=>f p.2)).zipIdx.map λx=>PV.tup [pN x.2,x.1])=l.zipIdx.map λp=>PV.tup [pN p.2,pN (f p.1.2)]:=by
  delta oO;rw[aB,iT,aB];rfl
 have u:l.zipIdx.length=l.length:=List.length_zipIdx;delta Zf LN;ext;rw[t];ext;rw[Qk (λp:Gp×Nat=>PV.tup [pN p.2,pN (f p.1.2)]) (λp=>PV.str (qQ p.1).line) _ λp j=>by
  have h1:=kc.mp j;have h2:=bV h1;refine⟨_,rfl,?_⟩;ext;rw[Ap (B p.1 h2) (I p.2 p.1 h1) (L p.1 h2)];rfl]
 rw[show(l.zipIdx.map λp=>PV.str (qQ p.1).line)=(l.map λp=>(qQ p).line).map PV.str by
  conv=>rhs;rw[<-jc 0 l]
  rw[aB,aB];rfl]
 ext;rw[Qk (rV f) (λp=>PV.str (sd p).line) _ λp j=>⟨_,rfl,by
  ext;rw[show rV f p=rV f (p.1,p.2) from rfl,Qlr (D p j) (M p j) (hw p j)];rfl⟩]
 rw[show(rs.map λp=>PV.str (sd p).line)=(rs.map λp=>(sd p).line).map PV.str by rw[aB];rfl];ext;rw[<-bw];ext;have el:(l.map λp=>(qQ p).line)++(rs.map λp=>(sd p).line)=(Fg l rs).map Rw.line:=by
  delta Fg;rw[bw,aB,aB];rfl
 rw[el];have E:=Xg ((Fg l rs).map Rw.line) 110 λs hs=>by
  obtain⟨x,H,rfl⟩:=aO.mp hs;exact(Rs (QiT B D x H)).2
 have J:(Fg l rs).length<=48:=by delta Fg;rw[a0,ag,ag];lia
 have e3:("\n":Str).length=1:=by decide+kernel
 rw[ag]at E;rw[pJoin_s (by rw[e3,ag];lia)];ext;rfl
local macro_rules|`(tactic| walk_at "ev")=>`(tactic| try simp (disch:=fail"e") only[vk])
def tR(ns:List Int) k:Zv [.lst (ns.map .int),pN k]=Z (.int (ns.getD k 0)):=by
 delta Zv;ext;by_cases h:k<ns.length
 .rw[a8 h];ext;simp[h];rfl
 .ext;simp[h];rfl
def Qy(row:List Nat):Nat:=row.foldl (λm k=>m|||2^k) 0
def Qgf k:∀(row:List Nat) m,(row.foldl (λm k=>m|||2^k) m).testBit k=(m.testBit k||decide (k∈row)):=by
 intro row;induction row with
 |nil =>
  intro m;simp
 |cons x r j =>
  intro m;rw[gN,j,gn,eV];by_cases h:x=k
  .subst h;simp
  .have l:k≠x:=λe=>h e.symm;simp[h,l]
def QG row k:(Qy row).testBit k=decide (k∈row):=by
 delta Qy;rw[Qgf];simp
def pO(a b:Nat):Bool:=(a&&&b)==a
def QE:pO a b=Y↔∀k,a.testBit k=Y->b.testBit k=Y:=by
 delta pO;rw[a9];constructor
 .intro h k j;rw[<-h,ce]at j;simp at j;exact j.2
 .intro h;refine bK λk=>?_;rw[ce];cases j:a.testBit k with
  |false=>rfl
  |true=>rw[h k j];rfl
def YB:pO (2^k) b=b.testBit k:=by
 rw[cf,QE];constructor
 .intro h;exact h k ie
 .intro h j l;rw[eV]at l;simp at l;rw[<-l];exact h
def QfL:pO (Qy row) b=row.all λk=>b.testBit k:=by
 rw[cf,QE,aX];constructor
 .intro h k j;exact h k (by rw[QG];simpa using j)
 .intro h k j;rw[QG]at j;exact h k (by simpa using j)
def qR a b:QD [pN a,pN b]=Z (.bl (pO a b)):=by
 delta QD;ext;rfl
def QiE(h:∀k∈row,k<=1000) s2 sl:∃l,pQ (oY 2) TF (oO row) [sl,.fz (pN 0),s2]=Z (.nx [sl,.fz (pN (Qy row)),l]):=by
 obtain⟨t,e,l,rfl⟩:=Pw (g:=oY 2) (b:=TF) pN (λm k=>m|||2^k)
  (λm j=>∃s2,j=[sl,.fz (pN m),s2]) row 0 [sl,.fz (pN 0),s2] ⟨s2,rfl⟩ (by
   rintro m j k u ⟨s2,rfl⟩;have:=h k u;refine⟨_,_,rfl,?_,.fz (pN k),rfl⟩;delta TF;ext)
 exact⟨l,e⟩
def WJ(h:∀k∈row,k<=1000):Zc [.lst (oO row)]=Z (pN (Qy row)):=by
 delta Zc;ext;obtain⟨s,e⟩:=QiE h .un (.fz (.lst (oO row)));rw[e];ext
def WK(h:∀k∈row,k<=1000):Zc [.tup (oO row)]=Z (pN (Qy row)):=by
 delta Zc;ext;obtain⟨s,e⟩:=QiE h .un (.fz (.tup (oO row)));rw[e];ext
structure pR where
 head:Nat
 body:List Nat
structure Bk where
 words:Nat
 banes:List Nat
 rules:List pR
def pR.enc(r:pR):PV := .tup [pN r.head,.tup (oO r.body)]
def Bk.enc(b:Bk):PV := .tup [pN b.words,.tup (oO b.banes),.tup (b.rules.map pR.enc)]
structure Bk.Ok (b:Bk):Prop where
 g8:b.banes.length<=8
 gw:b.banes.length<=b.words
 w60:b.words<=60
 r40:b.rules.length<=48
 bane:∀x∈b.banes,x<b.words
 hd:∀r∈b.rules,b.banes.length<=r.head/\r.head<b.words
 bd:∀r∈b.rules,r.body.Pairwise (· < ·)/\∀x∈r.body,x<b.words
inductive rE (b:Bk) (held:Nat):List Nat->Nat->Prop
 |nil:rE b held [] held
 |snoc {steps known i r}:rE b held steps known->b.rules[i]?=Z r->(∀x∈r.body,known.testBit x=Y)->known.testBit r.head=U->rE b held (steps++[i]) (known|||2^r.head)
def Fi(b:Bk)(known:Nat):Prop:=∀r∈b.rules,(∀x∈r.body,known.testBit x=Y)->known.testBit r.head=Y
inductive vP (b:Bk) (held:Nat):Nat->Prop
 |held {w}:held.testBit w=Y->vP b held w
 |rule {r}:r∈b.rules->(∀x∈r.body,vP b held x)->vP b held r.head
def Qu m k j:(m|||2^k).testBit j=(m.testBit j||decide (k=j)):=by
 rw[gn,eV]
def rE.der(h:rE b held steps known):∀w,known.testBit w=Y->vP b held w:=by
 induction h with
 |nil=>exact λw hw=>.held hw
 |snoc _ hr l _ j =>
  intro w hw;rw[Qu]at hw;simp at hw;rcases hw with hw | hw
  .exact j w hw
  .subst hw;exact .rule (bV hr) λx t=>j x (l x t)
def rE.sub(h:rE b held steps known):∀w,held.testBit w=Y->known.testBit w=Y:=by
 induction h with
 |nil=>exact λw hw=>hw
 |snoc _ hr l _ j =>
  intro w hw;rw[Qu,j w hw];rfl
def Fi.der(c:Fi b known)(s:∀w,held.testBit w=Y->known.testBit w=Y)(h:vP b held w):known.testBit w=Y:=by
 induction h with
 |held hw=>exact s _ hw
 |rule hr _ j=>exact c _ hr j
def uq(b:Bk)(held known:Nat):Prop:=∀w,known.testBit w=Y↔vP b held w
def uq.of(h:rE b held steps known)(c:Fi b known):uq b held known:=λw=>⟨h.der w,c.der h.sub⟩
def uq.unique(h1:uq b held k1)(h2:uq b held k2):k1=k2 :=
 bK λw=>by rw[cf,h1 w,h2 w]
def vP.mono(s:∀w,h1.testBit w=Y->h2.testBit w=Y)(d:vP b h1 w):vP b h2 w:=by
 induction d with
 |held hw=>exact .held (s _ hw)
 |rule hr _ j=>exact .rule hr j
set_option tactic.hygienic true in
def vP.lt(ok:b.Ok){held:Nat}(l:held<2^b.words)(d:vP b held w):w<b.words:=by
 induction d with
 |held hw =>
  rename_i w;rcases jz w b.words with h | h
  .exact h
  .have :=aF l (dG (by decide) h);rw[iL this]at hw;cases hw
 |rule hr _ _=>exact(ok.hd _ hr).2
def vP.guess(ok:b.Ok){held g:Nat}(l:g<b.banes.length)(d:vP b held g):held.testBit g=Y:=by
 cases d with
 |held hw=>exact hw
 |rule hr _=>have:=(ok.hd _ hr).1;lia
def left(b:Bk)(known:Nat):Nat:=(b.rules.filter λr => !known.testBit r.head).length
theorem WL{α:Type}{p q:α->Bool}:∀{l:List α}{x:α},x∈l->p x=Y->q x=U->(∀y,q y=Y->p y=Y)->(l.filter q).length<(l.filter p).length
 |y::l,x,u,t,hq,j=>by
  have le:∀l:List α,(l.filter q).length<=(l.filter p).length:=by
   intro l;induction l with
   |nil=>exact au _
   |cons z l B =>
    rw[iG,iG];cases hz:q z with
    |true=>rw[j z hz];simp;exact B
    |false=>cases p z<;>simp<;>omega
  rcases ap.mp u with e | e
  .subst e;rw[de t,cm (by simp[hq])];have:=le l;simp;lia
  .have:=WL e t hq j;rw[iG,iG];cases hz:q y with
   |true=>rw[j y hz];simp;omega
   |false=>cases p y<;>simp<;>omega
set_option tactic.hygienic true in
def rE.left(h:rE b held steps known):steps.length+left b known<=b.rules.length:=by
 induction h with
 |nil=>rw[dO,iK];exact bf _ _
 |snoc _ hr t l u =>
  rename_i st j i r _;have:DH.left b (j|||2^r.head)<DH.left b j:=WL (bV hr) (by simp[l]) (by simp) (λy hy=>by
   simp at hy;simp[hy.1])
  simp;lia
def LQ(b:Bk)(steps:List Nat):List Nat:=steps.map λi=>(b.rules.getD i ⟨0,[]⟩).head
set_option tactic.hygienic true in
def rE.known{known:Nat}(h:rE b held steps known):known=held|||Qy (LQ b steps):=by
 induction h with
 |nil=>show held=held|||0;simp
 |snoc _ hr l _ j =>
  rename_i st t i r _ _;have e:(b.rules.getD i ⟨0,[]⟩)=r:=by simp[hr]
  have e2:Qy (LQ b (st++[i]))=Qy (LQ b st)|||2^r.head:=by
   delta LQ Qy;rw[bw,ia];simp only[aT,fr,gN,List.foldl_nil,e]
  rw[e2,j,Nat.or_assoc]
def rE.lt{known:Nat}(h:rE b held steps known):∀i∈steps,i<b.rules.length:=by
 induction h with
 |nil=>simp
 |snoc _ hr t _ j =>
  intro i l;rcases aS.mp l with h | h
  .exact j i h
  .rw[am.mp h];exact(ax.mp hr).1
theorem WN{Post:oN->Prop}(I:Nat->oN->Prop)(step:∀n l,I n l->(t l=Z U/\Post l)\/(t l=Z Y/\∃B m,b l=Z (.nx B)/\m<n/\I m B)) :
  ∀N n l,I n l->n<N->∃D,GG t b N l=Z (.nx D)/\Post D
 |0,_,_,_,h=>by lia
 |N+1,n,l,u,J=>by
  rcases step n l u with⟨j,E⟩|⟨j,B,m,H,hm,h2⟩
  .exact⟨l,by unfold GG;rw[j];rfl,E⟩
  .obtain⟨D,e,p⟩:=WN I step N m B h2 (by lia);exact⟨D,by unfold GG;rw[j,bm,aw rfl,H];exact e,p⟩
def qE(b:Bk):oU b.enc (pN 0)=Z (pN b.words):=rfl
def qj(b:Bk):oU b.enc (pN 1)=Z (.tup (oO b.banes)):=rfl
def qF(b:Bk):oU b.enc (pN 2)=Z (.tup (b.rules.map pR.enc)):=rfl
def Aq(r:pR):oU r.enc (pN 0)=Z (pN r.head):=rfl
def Ar(r:pR):oU r.enc (pN 1)=Z (.tup (oO r.body)):=rfl
def pK(b:Bk):flat b.enc=U:=rfl
def vQ(r:pR):flat r.enc=U:=rfl
def T2(b:Bk):List PV:=b.rules.map λr=>pN (Qy r.body)
def zipIdx_map{α l:Type}(f:α->l)(xs:List α):(xs.map f).zipIdx=xs.zipIdx.map λp=>(f p.1,p.2):=by
 rw[iT];exact dX λp _=>rfl
def Hg:=ac (ac @qE (ac @qj @qF)) (ac (ac @Aq @Ar) (ac @pK @vQ))
local macro_rules|`(tactic| walk_at "ev")=>`(tactic| try simp (disch:=fail"e") only[Hg,qR,vk])
def look(b:Bk)(held:Nat)(known:Nat)(steps:List Nat)(l:Bool)(s7 s8 s9:Slot):oN :=
 [.fz b.enc,.fz (pN held),.fz (.tup (b.rules.map pR.enc)),.ow (T2 b),.fz (pN known),.ow (oO steps),.fz (.bl l),s7,s8,s9]
def Nj(known:Nat)(r:pR):Bool := !known.testBit r.head&&r.body.all λk=>known.testBit k
def Fj(ok:b.Ok)(D:b.rules[i]?=Z r)(hs:steps.length<=100) :
  ∃s7 s8 B,Yl (look b held known steps l (.fz (pN i)) (.fz r.enc) s9)=Z (.nx (match Nj known r with
   |true=>look b held (known|||2^r.head) (steps++[i]) Y s7 s8 B | false=>look b held known steps l s7 s8 B)):=by
 have hm:=bV D;have j:=(ok.hd r hm).2;have hw:=ok.w60;refine⟨.fz (pN i),.fz r.enc,.fz (pN (2^r.head)),?_⟩;delta Yl look Nj;ext;rw[YB];cases t:known.testBit r.head with
 |true=>ext
 |false =>
  ext;have e:(T2 b)[i]?=Z (pN (Qy r.body)):=by delta T2;rw[aI,D];rfl
  rw[e];ext;rw[QfL];cases u:r.body.all λk=>known.testBit k with
  |true =>
   ext;rw[Zj (by rw[pF];lia) rfl];ext;simp[oO]
  |false=>ext
def QfM:Nj known r=Y↔known.testBit r.head=U/\∀x∈r.body,known.testBit x=Y:=by
 delta Nj;simp
def As(ok:b.Ok)(w:rE b held steps known) :
  ∃B l D I L M,Yj (look b held known steps zx s7 s8 s9)=Z (.nx (look b held B l D I L M))/\rE b held l B /\
   (D=U->Fi b B)/\(D=Y->steps.length<l.length)/\steps.length<=l.length:=by
 delta Yj look;ext;rw[zipIdx_map,aB];obtain⟨av,e,B,l,D,t,u,E,rfl,h1,h2,h3,J⟩:=QW (g:=ZQ 7 8) (λp=>PV.tup [pN p.2,p.1.enc])
  (λpre zy=>∃B l D t u E,zy=look b held B l D t u E/\rE b held l B/\steps.length<=l.length /\
   (D=U->∀p∈pre,Nj B p.1=U)/\(D=Y->steps.length<l.length))
  b.rules.zipIdx b.rules.zipIdx [] (look b held known steps U s7 s8 s9) rfl ⟨known,steps,U,s7,s8,s9,rfl,w,au _,by simp,by simp⟩ (by
   rintro pre p post zy j ⟨kn,st,gr,t,u,E,rfl,h1,h2,h3,J⟩;have hp:p∈b.rules.zipIdx:=by rw[<-j];simp
   have H :=by
    have:=kc.mp hp;simpa using this
   have hl:=h1.left;have hr:=ok.r40;obtain⟨u7,u8,u9,e⟩:=Fj ok (steps:=st) H (by lia);refine⟨_,_,rfl,e,?_⟩;cases hf:Nj kn p.1 with
   |true =>
    obtain⟨f1,f2⟩:=QfM.mp hf;refine⟨_,_,_,_,_,_,rfl,h1.snoc H f2 f1,by simp;lia,by simp,λ_=>by simp;lia⟩
   |false =>
    refine⟨_,_,_,_,_,_,rfl,h1,h2,λT q hq=>?_,J⟩;rcases aS.mp hq with z | z
    .exact h3 T q z
    .rw[am.mp z];exact hf)
 refine⟨B,l,D,t,u,E,?_,h1,λT r hr hb=>?_,J,h2⟩
 .exact e
 .obtain⟨i,H,zw⟩:=dH.mp hr;have:=h3 T (r,i) (kc.mpr (by simp[H,zw]));cases hk:B.testBit r.head with
  |true=>rfl
  |false =>
   have:=QfM.mpr ⟨hk,hb⟩;simp_all
def Qed{b:Bk}(ok:b.Ok) held:∃steps known,QX [b.enc,pN held]=Z (.lst (oO steps))/\rE b held steps known/\Fi b known:=by
 delta QX;have hr:=ok.r40;have hw:=ok.w60;ext;rw[Qk pR.enc (λr=>pN (Qy r.body)) b.rules λr hr=>⟨_,rfl,?_⟩]
 .have fl:(b.rules.map λr=>pN (Qy r.body)).all flat=Y:=by rw[eR,aX];exact λ_ _=>rfl
  rw[gK,fl];ext;obtain⟨I,e,known,steps,s7,s8,s9,rfl,h1,h2⟩:=WN (t:=pE (nP 6))
   (Post:=λu=>∃known steps s7 s8 s9,u=look b held known steps U s7 s8 s9/\rE b held steps known/\Fi b known)
   (λn u=>∃known steps j s7 s8 s9,u=look b held known steps j s7 s8 s9/\rE b held steps known/\(j=U->Fi b known)/\n=2*(b.rules.length+1-steps.length)+(if j=Y then 1 else 0))
   (by
    rintro n u ⟨known,steps,j,s7,s8,s9,rfl,h1,h2,rfl⟩;cases j with
    |false =>
     refine .inl ⟨?_,known,steps,s7,s8,s9,rfl,h1,h2 rfl⟩;delta look;ext
    |true =>
     refine .inr ⟨?_,?_⟩
     .delta look;ext
     .obtain⟨B,st,gr,D,E,H,e,w,c,l,l2⟩:=As ok h1;have J:=w.left;cases gr with
      |true=>exact⟨_,_,e,by have:=l rfl;lia,B,st,Y,D,E,H,rfl,w,c,rfl⟩
      |false=>exact⟨_,_,e,by simp;lia,B,st,U,D,E,H,rfl,w,c,rfl⟩)
   1000 (2*(b.rules.length+1)+1) (look b held held [] Y .un .un .un) ⟨held,[],Y,.un,.un,.un,rfl,.nil,by simp,by simp⟩ (by lia)
  delta look at e;refine⟨steps,known,?_,h1,h2⟩;delta Oq;rw[show T2 b=b.rules.map λr=>pN (Qy r.body) from rfl,show oO []=[] from rfl]at e;rw[e];ext
 .have:=(ok.bd r hr).2;ext;rw[WK λk L=>by have:=this k L;lia]
def yl(b:Bk)(held:Nat):Nat:=nH (uq b held)
def LR:∀n steps known,rE b held steps known->b.rules.length-steps.length=n->∃B l,rE b held B l/\Fi b l:=by
 intro n;induction n with
 |zero =>
  intro steps known h D;refine⟨steps,known,h,λr hr j=>b5 λhc=>?_⟩;obtain⟨i,t⟩:=mh hr;have:=(rE.snoc h t j (by simpa using hc)).left;simp at this;lia
 |succ n E =>
  intro steps known h D;by_cases hc:Fi b known
  .exact⟨steps,known,h,hc⟩
  .obtain⟨r,hr⟩:=Classical.not_forall.mp hc;obtain⟨hr,u⟩:=nG.mp hr;obtain⟨j,H⟩:=nG.mp u;obtain⟨i,t⟩:=mh hr;exact E _ _ (rE.snoc h t j (by simpa using H)) (by simp;lia)
def Au(ok:b.Ok) held:uq b held (yl b held):=by
 obtain⟨steps,known,h1,h2⟩:=LR _ [] held .nil rfl;exact lD ⟨known,.of h1 h2⟩
def Hh(ok:b.Ok)(h:uq b held known):known=yl b held:=h.unique (Au ok held)
def LS(ok:b.Ok)(h:∀i∈steps,i<b.rules.length):∀k∈LQ b steps,k<b.words:=by
 intro k j;obtain⟨i,l,rfl⟩:=aO.mp j;have:=h i l;have e:b.rules.getD i ⟨0,[]⟩=b.rules[i]:=by simp[this]
 rw[e];exact(ok.hd _ (bu this)).2
def XN(ok:b.Ok)(w:rE b held steps known):ZN [b.enc,pN held,.lst (oO steps)]=Z (pN known):=by
 have t:=w.left;have hr:=ok.r40;have hw:=ok.w60;delta ZN;ext;rw[show oO steps=steps.map pN from rfl,Qk pN (λi=>pN (b.rules.getD i ⟨0,[]⟩).head) steps λi j=>⟨_,rfl,?_⟩]
 .rw[show(steps.map λi=>pN (b.rules.getD i ⟨0,[]⟩).head)=oO (LQ b steps) by delta oO LQ;rw[aB];rfl];ext;rw[WJ λk l=>by have:=LS ok w.lt k l;lia];ext;rw[<-w.known]
 .have j:=w.lt i j;have e:b.rules[i]?=Z (b.rules.getD i ⟨0,[]⟩):=by simp[j]
  ext;rw[aI,e];ext
def T3(ok:b.Ok) held:YO [b.enc,pN held]=Z (pN (yl b held)):=by
 obtain⟨steps,known,e,h1,h2⟩:=Qed ok held;have:=Hh ok (.of h1 h2);subst this;delta YO;ext;rw[e];ext;rw[XN ok h1];ext
theorem Rz{α:Type}[BEq α][LawfulBEq α]{y:α}:∀{xs:List α},y∈o5 xs↔y∈xs
 |[]=>by simp[o5]
 |x::xs=>by
  unfold o5;rw[ap,ap,aK,Rz (xs:=xs)];by_cases h:y=x
  .simp[h]
  .simp[h]
def Qjp{α:Type}[BEq α][LawfulBEq α]:∀xs:List α,(o5 xs).Nodup:=by
 intro xs;induction xs with
 |nil =>
  simp[o5]
 |cons x xs j =>
  unfold o5;rw[bL];refine⟨by simp[aK],eS _ (j)⟩
def Qix{α:Type}[BEq α]:∀xs:List α,(o5 xs).length<=xs.length:=by
 intro xs;induction xs with
 |nil =>
  simp[o5]
 |cons x xs j =>
  unfold o5;have h1:=bf (λy => !(y==x)) (o5 xs);have h2:=j;simp only[aU];omega
def ur(ns:List Nat):List Nat:=(Xk (o5 (ns.map λ(k:Nat)=>(k:Int)))).map Int.toNat
def Qla{ns:List Nat}{x:Nat}:x∈ur ns↔x∈ns:=by
 delta ur;rw[aO];constructor
 .rintro⟨i,j,rfl⟩;have:=Rz.mp ((Yd _).mem_iff.mp j);obtain⟨k,l,rfl⟩:=aO.mp this;simpa using l
 .intro h;exact⟨(x:Int),(Yd _).mem_iff.mpr (Rz.mpr (aO.mpr ⟨x,h,rfl⟩)),by simp⟩
def Fk(ns:List Nat):(Xk (o5 (ns.map λ(k:Nat)=>(k:Int)))).map PV.int=oO (ur ns):=by
 delta ur oO;rw[aB];refine dX λi j=>?_;have:=Rz.mp ((Yd _).mem_iff.mp j);obtain⟨k,l,rfl⟩:=aO.mp this;rfl
def LU(ns:List Nat):(ur ns).Pairwise (· < ·):=by
 have h1:=QiG (o5 (ns.map λ(k:Nat)=>(k:Int)));have h2:(Xk (o5 (ns.map λ(k:Nat)=>(k:Int)))).Nodup:=(Yd _).nodup_iff.mpr (Qjp _);have h3:∀i∈Xk (o5 (ns.map λ(k:Nat)=>(k:Int))),0<=i:=λi j=>by
  have:=Rz.mp ((Yd _).mem_iff.mp j);obtain⟨k,u,rfl⟩:=aO.mp this;lia
 delta ur;generalize Xk (o5 (ns.map λ(k:Nat)=>(k:Int)))=l at *;clear ns;induction l with
 |nil=>exact .nil
 |cons x l t =>
  rw[b0]at h1;rw[bL]at h2;rw[aT,b0];refine⟨λy hy=>?_,t h1.2 h2.2 λi j=>h3 i (ay _ j)⟩;obtain⟨z,hz,rfl⟩:=aO.mp hy;have a:=h1.1 z hz;have b:=h3 x a7;have c:x≠z:=λe=>h2.1 (e▸hz);lia
def WO(ns:List Nat):(ur ns).length=(o5 (ns.map λ(k:Nat)=>(k:Int))).length:=by
 delta ur;rw[ag,Qmy]
def QjW(ns:List Nat):(ur ns).length<=ns.length:=by
 rw[WO];have:=Qix (ns.map λ(k:Nat)=>(k:Int))
 rwa [ag]at this
def Qjm{ns:List Nat}(h:ns.length<64):OC [.lst (oO ns)]=Z (oO (ur ns)):=by
 have e:OC [.lst (oO ns)]=match Xp (oO ns) with
  |some ns=>if ns.length<1000/\(o5 ns).length<64 then Z ((Xk (o5 ns)).map PV.int) else O
  |none=>O:=rfl
 rw[e,Wf,SE];have:=Qix (ns.map λ(k:Nat)=>(k:Int));rw[ag]at this;show(if (ns.map λ(k:Nat)=>(k:Int)).length<1000/\(o5 (ns.map λ(k:Nat)=>(k:Int))).length<64 then _ else O)=_;rw[aw ⟨by rw[ag];lia,by lia⟩,Fk]
def Qmf{ns:List Nat}(h:ns.length<1000):OD [.lst (oO ns)]=Z (pN (ur ns).length):=by
 have e:OD [.lst (oO ns)]=match Xp (oO ns) with
  |some ns=>if ns.length<1000 then Z (.int (o5 ns).length) else O
  |none=>O:=rfl
 rw[e,Wf,SE];show(if (ns.map λ(k:Nat)=>(k:Int)).length<1000 then Z (PV.int (o5 (ns.map λ(k:Nat)=>(k:Int))).length) else O)=_;rw[aw (by rw[ag];omega),WO];rfl
def LV(g w:Nat)(r:pR):Prop:=g<=r.head/\r.head<w/\r.body.Pairwise (· < ·)/\r.body.length<=6/\∀x∈r.body,x<w
def Qna:∀xs ,p7 (oO xs)=0:=by
 intro xs;induction xs with
 |nil =>
  simp[oO,p7]
 |cons x xs j =>
  have:=j;unfold oO at *;rw[aT];unfold p7;rw[this];simp[pN,pH]
def Qml:∀xs ,rK (oO xs)=Y:=by
 intro xs;induction xs with
 |nil =>
  simp[oO,rK]
 |cons x xs j =>
  have:=j;unfold oO at *;rw[aT];unfold rK;rw[this];simp[pN,vd]
def T4 xs:p9 (.lst (oO xs))=Y:=by
 simp[p9,pH,vd,Qna,Qml]
def Bk.Ok.of{banes:List Nat}{rules:List pR}(B:banes.length<=8)(l:banes.length<=w)(hw:w<=60)(D:∀x∈banes,x<w)(hr:∀r∈rules,LV banes.length w r)(I:rules.length<=40):(⟨w,banes,rules⟩:Bk).Ok :=
 ⟨B,l,hw,by show rules.length<=48;lia,D,λr h=>⟨(hr r h).1,(hr r h).2.1⟩,λr h=>⟨(hr r h).2.2.1,(hr r h).2.2.2.2⟩⟩
def Fl xs:peq (.lst xs) (.lst [])=xs.isEmpty:=by
 cases xs<;>rfl
def Av(b:Bk):(Nat->Prop)->List Nat->Prop
 |_,[]=>True
 |G,k::ks=>∃r,b.rules[k]?=Z r/\(∀x∈r.body,G x)/\Av b (λx=>G x\/x=r.head) ks
def QP(b:Bk)(k:Nat):Nat:=(b.rules.getD k ⟨0,[]⟩).head
def Hi(b:Bk)(k:Nat):List Nat:=(b.rules.getD k ⟨0,[]⟩).body
def LW(b:Bk)(word l:Nat)(K:List Nat)(N:Nat):Prop:=∀G ,(∀x,N.testBit x=Y->l.testBit x=Y->G x)->Av b G K/\(G word\/∃k∈K,QP b k=word)
structure Aw (b:Bk) (word:Nat) (K:List Nat) (N:Nat):Prop where
 need:∀x,N.testBit x=Y↔x=word\/∃k∈K,x∈Hi b k
 lt:∀k∈K,k<b.rules.length
 last:∀k,K.getLast?=Z k->QP b k=word
 later:∀pre k post,K=pre++k::post->QP b k=word\/∃j∈post,QP b k∈Hi b j
def QlI{b:Bk}(ok:b.Ok)(B:b.rules[i]?=Z r)(D:Kr.length<=100) :
  ∃l,QN [.fz b.enc,.fz (pN word),.fz sl,.fz (pN N),.ow (oO Kr),.fz (pN i),s6] =
   Z (.nx (match N.testBit r.head with
    |true=>[.fz b.enc,.fz (pN word),.fz sl,.fz (pN (N|||Qy r.body)),.ow (oO (Kr++[i])),.fz (pN i),l]
    |false=>[.fz b.enc,.fz (pN word),.fz sl,.fz (pN N),.ow (oO Kr),.fz (pN i),l])):=by
 have hm:=bV B;have u:=(ok.hd r hm).2;have j:=(ok.bd r hm).2;have hw:=ok.w60;refine⟨.fz r.enc,?_⟩;delta QN;ext;rw[aI,B];ext;rw[YB];cases N.testBit r.head with
 |false=>ext
 |true =>
  ext;rw[WK λk t=>by have:=j k t;lia];ext;rw[Zj (by rw[pF];lia) rfl];ext;rw[QmR]
set_option tactic.hygienic true in
def Qjt{b:Bk}(ok:b.Ok){held word:Nat}{sl:PV}{steps:List Nat}{known:Nat}(w:rE b held steps known):∀N K s5 s6,K.length+steps.length<=100->Aw b word K N->LW b word known K N ->
  ∃I B L D,pQ (oY 5) QN (oO steps.reverse) [.fz b.enc,.fz (pN word),.fz sl,.fz (pN N),.ow (oO K.reverse),s5,s6]=Z (.nx [.fz b.enc,.fz (pN word),.fz sl,.fz (pN I),.ow (oO B.reverse),L,D]) /\
   Aw b word B I/\LW b word held B I/\B.length<=K.length+steps.length/\∃S,List.Sublist S steps/\B=S++K:=by
 induction w with
 |nil=>exact λN K s5 s6 _ h1 h2=>⟨N,K,s5,s6,rfl,h1,h2,by simp,[],.slnil,rfl⟩
 |snoc wp hr hb hn ih =>
  rename_i st kn i r;intro N K s5 s6 hl h1 h2;simp only[a0,aU,dO]at hl;have M:QP b i=r.head:=by delta QP;simp[hr]
  have eb:Hi b i=r.body:=by delta Hi;simp[hr]
  obtain⟨D,e⟩:=QlI ok (Kr:=K.reverse) hr (by rw[fQ];lia);have il :=(ax.mp hr).1;cases E:N.testBit r.head with
  |false =>
   rw[E]at e;obtain⟨I,B,zx,T,e2,k1,k2,k3,S,zw,zy⟩:=ih N K (.fz (pN i)) D (by lia) h1 (λG J=>h2 G λx u t=>J x u (by
    rw[Qu]at t;simp at t;rcases t with t | t
    .exact t
    .rw[<-t,E]at u;cases u))
   refine⟨I,B,zx,T,?_,k1,k2,by simp;lia,S,zw.trans (List.sublist_append_left _ _),zy⟩;rw[mE,eL,jK,iU,gB];show pQ (oY 5) QN (pN i::oO st.reverse) _=_;rw[Tv rfl e];exact e2
  |true =>
   rw[E]at e;have k2:Aw b word (i::K) (N|||Qy r.body):=by
    refine⟨λx=>?_,λk t=>?_,λk t=>?_,λpre k post t=>?_⟩
    .rw[gn,QG,dQ,h1.need x,bM];constructor
     .rintro((z|⟨k,t,z⟩) | z)
      .exact .inl z
      .exact .inr ⟨k,ay _ t,z⟩
      .exact .inr ⟨i,a7,by rw[eb];exact z⟩
     .rintro(z|⟨k,t,z⟩)
      .exact .inl (.inl z)
      .rcases ap.mp t with y | y
       .subst y;rw[eb]at z;exact .inr z
       .exact .inl (.inr ⟨k,y,z⟩)
    .rcases ap.mp t with y | y
     .rw[y];exact il
     .exact h1.lt k y
    .cases K with
     |nil =>
      simp at t;subst t;rw[M];have:=(h1.need r.head).mp E;simpa using this
     |cons y l =>
      exact h1.last k t
    .cases pre with
     |nil =>
      obtain⟨rfl,rfl⟩:=t;rw[M];rcases (h1.need r.head).mp E with z|⟨j,hj,z⟩
      .exact .inl z
      .exact .inr ⟨j,hj,z⟩
     |cons y l =>
      simp at t;exact h1.later l k post t.2
   have g2:LW b word kn (i::K) (N|||Qy r.body):=λG J=>by
    have bG:∀x∈r.body,G x:=λx u=>J x (by rw[gn,QG];simp[u]) (hb x u);obtain⟨q1,H⟩:=h2 (λx=>G x\/x=r.head) λx u t=>by
     rw[Qu]at t;simp at t;rcases t with t | t
     .exact .inl (J x (by rw[gn,u];rfl) t)
     .exact .inr t.symm
    refine⟨⟨r,hr,bG,q1⟩,?_⟩;rcases H with(H | H)|⟨k,t,z⟩
    .exact .inl H
    .exact .inr ⟨i,a7,by rw[M];exact H.symm⟩
    .exact .inr ⟨k,ay _ t,z⟩
   obtain⟨I,B,zx,T,e2,k1,k3,zw,S,zy,k6⟩:=ih (N|||Qy r.body) (i::K) (.fz (pN i)) D (by simp;lia) k2 g2;refine⟨I,B,zx,T,?_,k1,k3,by simp at zw |-;lia,S++[i],zy.append (.refl _),by rw[k6];simp⟩;rw[mE,eL,jK,iU,gB];show pQ (oY 5) QN (pN i::oO st.reverse) _=_;rw[Tv (γ1:=[.fz b.enc,.fz (pN word),.fz sl,.fz (pN N),.ow (oO K.reverse),.fz (pN i),s6]) rfl e];rw[eL]at e2;exact e2
structure vn (b:Bk) (held word:Nat) (K:List Nat):Prop where
 runs:Av b (λx=>held.testBit x=Y) K
 ends:held.testBit word=Y\/∃k∈K,QP b k=word
 lt:∀k∈K,k<b.rules.length
 last:∀k,K.getLast?=Z k->QP b k=word
 later:∀pre k post,K=pre++k::post->QP b k=word\/∃j∈post,QP b k∈Hi b j
 len:K.length<=b.rules.length
 sub:∃steps known,rE b held steps known/\List.Sublist K steps
def WP xs:(oO xs).reverse=oO xs.reverse:=by delta oO;rw[jL]
def Ax(ok:b.Ok)(w:rE b held steps known)(l:known.testBit word=Y)(hw:word<=60):∃K,Yn [b.enc,pN word,.lst (oO steps)]=Z (.tup (oO K))/\vn b held word K:=by
 have I:=w.left;have hr:=ok.r40;obtain⟨J,t,L,M,e,k1,k2,u,S,B,j⟩:=Qjt ok w (2^word) [] .un .un (by simp;lia)
  ⟨λx=>by rw[eV];simp;exact eq_comm,by simp,by simp,λpre k post h=>by simp at h⟩ (λG D=>⟨trivial,.inl (D word ie l)⟩)
 obtain⟨E,H⟩:=k2 (λx=>held.testBit x=Y) λx _ h=>h;rw[bB]at j;refine⟨t,?_,E,H,k1.lt,k1.last,k1.later,by simp at u;lia,steps,known,w,by rw[j];exact B⟩;delta Yn;ext;rw[WP];rw[jK,zM]at e;rw[e];ext;rw[WP,i3]
def RA(ok:b.Ok) held (hw:word<=60) :
  ((yl b held).testBit word=Y/\∃K,Nf [b.enc,pN held,pN word]=Z (.tup (oO K))/\vn b held word K)\/((yl b held).testBit word=U/\Nf [b.enc,pN held,pN word]=Z .non):=by
 obtain⟨steps,known,e,h1,h2⟩:=Qed ok held;have hy:=Hh ok (.of h1 h2);rw[<-hy];cases j:known.testBit word with
 |true =>
  obtain⟨K,e2,l⟩:=Ax ok h1 j hw;refine .inl ⟨rfl,K,?_,l⟩;delta Nf;ext;rw[e];ext;rw[XN ok h1];ext;rw[YB,j];ext;rw[e2];ext
 |false =>
  refine .inr ⟨rfl,?_⟩;delta Nf;ext;rw[e];ext;rw[XN ok h1];ext;rw[YB,j];ext
def uu(w known:Nat):List PV:=(ai w).map λk=>.bl (known.testBit k)
def uY w known:(uu w known).length=w:=by delta uu;rw[ag,ao]
def sG(h:k<w):(uu w known)[k]?=Z (.bl (known.testBit k)):=by
 delta uu;rw[aI,dr h];rfl
def uZ w known k:(uu w known).set k (.bl Y)=uu w (known|||2^k):=by
 refine eO λj=>?_;by_cases l:j<w
 .rw[sG l,Qu];by_cases h:k=j
  .subst h;rw[ba (by rw[uY];exact l)];simp
  .rw[aD h,sG l];simp[h]
 .rw[bg (by rw[ot,uY];lia),bg (by rw[uY];lia)]
def tS w known:(uu w known).all flat=Y:=by
 delta uu;rw[eR,aX];exact λ_ _=>rfl
def qS m k:(m/2^k&&&1==1)=m.testBit k:=by
 rw[mY];exact rT m k
def ri m k:(m/2^k&&&1==0) = !m.testBit k:=by
 rw[<-qS,mY];have:m/2^k%2=0\/m/2^k%2=1:=by lia
 rcases this with h | h<;>rw[h]<;>rfl
def Ay{b:Bk}(ok:b.Ok){r:pR}(hr:r∈b.rules):r.body.length<=1000:=by
 have l:=ok.bd r hr;have hw:=ok.w60;have key:∀(row:List Nat)(lo n:Nat),row.Pairwise (· < ·)->(∀x∈row,lo<=x/\x<n)->row.length<=n-lo:=by
  intro row;induction row with
  |nil=>intros;simp
  |cons x r t =>
   intro lo n j h;rw[b0]at j;have:=t (x+1) n j.2 λy hy=>⟨j.1 y hy,(h y (by simp[hy])).2⟩
   have:=h x (by simp);simp only[aU];lia
 have:=key r.body 0 b.words l.1 λx u=>⟨b9 _,l.2 x u⟩
 lia
def Fm(b:Bk)(known:Nat):List Nat:=(ai b.banes.length).filter λg=>known.testBit (b.banes.getD g 0)
def stk(b:Bk)(held:Nat):Nat:=Qy (Fm b (yl b held))
def Az xs:((oO xs).zipIdx.map λx=>PV.tup [pN x.2,x.1])=(ai xs.length).map λg=>PV.tup [pN g,pN (xs.getD g 0)]:=by
 refine eO λj=>?_;rw[aI,aI,List.getElem?_zipIdx];by_cases h:j<xs.length
 .delta oO;simp[h]
 .rw[bg (by delta oO;simp;lia),bg (by simp;lia)];rfl
def Xt{α:Type} f p y:∀(xs:List α),(∀x∈xs,∃γ1,g (f x) B=Z γ1/\t γ1=Z (p x)/\(p x=Y->e γ1=Z (y x))) ->
  YX g t e B (xs.map f)=Z ((xs.filter p).map y):=by
 intro xs;induction xs with
 |nil =>
  intro _;exact rfl
 |cons x xs j =>
  intro h;obtain⟨γ1,h1,h2,h3⟩:=h x (by simp);have u:=j λz hz=>h z (by simp[hz]);rw[aT];unfold YX;rw[h1,bm,h2,bm];cases l:p x with
  |true =>
   rw[de l,h3 l,u];rfl
  |false =>
   rw[cm (by simp[l])];simp[u]
def T5:=ac (ac Hg vk) (ac (ac @qR @sG) (ac @tS (ac @uZ @qS)))
local macro_rules|`(tactic| walk_at "ev")=>`(tactic| try simp (disch:=fail"e") only[T5])
def Fn(h:g∈Fm b k):g<b.banes.length:=aR.mp (aK.mp h).1
def Qlz{b:Bk}(ok:b.Ok)(h:g<b.banes.length):b.banes.getD g 0<b.words:=by
 have:b.banes.getD g 0=b.banes[g]:=by simp[h]
 rw[this];exact ok.bane _ (bu h)
def RB(ok:b.Ok) held:Xd [b.enc,pN held]=Z (pN (stk b held)):=by
 delta Xd;have t:=ok.g8;have hw:=ok.w60;ext;rw[T3 ok];ext;rw[Az];ext;rw[Xt (λg=>PV.tup [pN g,pN (b.banes.getD g 0)]) (λg=>(yl b held).testBit (b.banes.getD g 0)) pN (ai b.banes.length) λg j=>⟨_,rfl,?_,λ_=>rfl⟩]
 .rw[show(((ai b.banes.length).filter λg=>(yl b held).testBit (b.banes.getD g 0)).map pN)=oO (Fm b (yl b held)) from rfl];ext;rw[WJ λk l=>by have:=Fn l;lia];rfl
 .have:=Qlz ok (aR.mp j);ext;rw[YB]
def QjK(ok:b.Ok) held:TN [b.enc,pN held]=Z (.bl (held&&&stk b held==0)):=by
 delta TN;ext;rw[RB ok];ext
def WQ:(stk b held).testBit g=Y↔g<b.banes.length/\(yl b held).testBit (b.banes.getD g 0)=Y:=by
 delta stk Fm;rw[QG,bM,aK,aR]
def qW(a b:Nat):Nat:=a-(a&&&b)
def LX:∀x y,x&&&y=0->x|||y=x+y:=by
 intro x;induction x using j7 with
 |_ x j =>
  intro y h;by_cases l:x=0
  .subst l;simp
  .have h2:=j (x/2) (by lia) (y/2) (by rw[<-Nat.and_div_two,h]);have t:(x|||y)/2=x/2+y/2:=by rw[Nat.or_div_two,h2]
   have u := @Nat.or_mod_two_eq_one x y;have B := @Nat.and_mod_two_eq_one x y;lia
def Fo:∀(a c:Nat),(∀k,c.testBit k=Y->a.testBit k=Y)->∀k,(a-c).testBit k=(a.testBit k && !c.testBit k):=by
 intro a c h k;have e2:a ^^^ c=a-c:=by
  have j:(a ^^^ c)+c=a:=by
   have hd:(a ^^^ c)&&&c=0:=bK λi=>by
    rw[ce,j6,iC];cases hc:c.testBit i with
    |false=>simp
    |true=>rw[h i hc];rfl
   have ho:(a ^^^ c)|||c=a:=bK λi=>by
    rw[gn,j6];cases hc:c.testBit i with
    |false=>simp
    |true=>rw[h i hc];rfl
   rw[<-LX _ _ hd,ho]
  lia
 rw[<-e2,j6];cases hc:c.testBit k with
 |false=>simp
 |true=>rw[h k hc];rfl
def T6{g:PV->oN->Option oN}{b:pW}(I:Nat->oN->Prop)(n:Nat)(l:oN)(L:I 0 l)(step:∀j l,j<n->I j l->∃γ1 B,g (pN j) l=Z γ1/\b γ1=Z (.nx B)/\I (j+1) B):∃D,pQ g b (oO (ai n)) l=Z (.nx D)/\I n D:=by
 obtain⟨D,e,h⟩:=QW (g:=g) (b:=b) pN (λpre l=>I pre.length l) (ai n) (ai n) [] l rfl L (by
  intro pre j post l t u;have E:j=pre.length:=by
   have h1:(ai n)[pre.length]?=Z j:=by rw[<-t];simp
   rw[ax]at h1;obtain⟨_,h2⟩:=h1;simpa using h2.symm
  have H:pre.length<n:=by
   have:=congrArg dt t;simp at this;lia
  subst E;obtain⟨γ1,B,J,M,zy⟩:=step _ l H u;exact⟨γ1,B,J,M,by simpa using zy⟩)
 rw[ao]at h;exact⟨D,e,h⟩
def AA{b:Bk}(h:j<b.banes.length):b.banes[j]?=Z (b.banes.getD j 0):=by simp[h]
def T7{a b:Bool}{t:oN->Option Bool}{l:oN}(h:t l=Z b):Et t l a=Z (a&&b):=by
 cases a
 .rfl
 .rw[zB,h];rfl
def Hj{a b:Bool}{t:oN->Option Bool}{l:oN}(h:t l=Z b):Tu t l a=Z (a||b):=by
 cases a
 .rw[G7,h];rfl
 .rfl
def uv xs:sg (.lst (oO xs)) (.lst [])=Z (.bl (!xs.isEmpty)):=by
 rw[y8 (T4 xs) (show p9 (.lst [])=Y from T4 []),Fl];cases xs<;>rfl
def sI(a b:Nat):qJ (pN a) (.int (dA b))=Z (pN (qW a b)):=by
 delta pN;rw[y4,bitAnd_pn (by lia) (by delta dA;lia)];have e:(dA (dA b)).toNat=b:=by delta dA;lia
 rw[e,dn];delta qW;have := @iS a b;congr 2;lia
def Xh a b k:(qW a b).testBit k=(a.testBit k && !b.testBit k):=by
 delta qW;rw[Fo a (a&&&b) (λk h=>by simp at h;exact h.1),ce];cases a.testBit k<;>cases b.testBit k<;>rfl
def u1 b:xf (pN b)=Z (.int (dA b)):=rfl
def wb(b:Bk)(held:Nat):Nat:=qW (2^b.banes.length-1) (stk b held)
def u2(b:Bk)(held:Nat):Nat:=wb b (wb b held)
def WR:(wb b held).testBit g=(decide (g<b.banes.length) && !(stk b held).testBit g):=by
 delta wb;rw[Xh,Nat.testBit_two_pow_sub_one]
def T8 b held:wb b held<2^b.banes.length:=by
 have:=cN b.banes.length;delta wb qW;omega
def LY b held:u2 b held<2^b.banes.length:=T8 _ _
def Hk(h:m<2^n)(l:m.testBit k=Y):k<n:=by
 rcases jz k n with h1 | h1
 .exact h1
 .rw[iL (aF h (dG (by decide) h1))]at l;cases l
def T9(ok:b.Ok)(s:∀w,h1.testBit w=Y->h2.testBit w=Y)(d:(yl b h1).testBit w=Y):(yl b h2).testBit w=Y :=
 (Au ok h2 w).mpr (((Au ok h1 w).mp d).mono s)
def AB(ok:b.Ok)(s:∀w,h1.testBit w=Y->h2.testBit w=Y)(d:(stk b h1).testBit g=Y):(stk b h2).testBit g=Y:=by
 rw[WQ]at *;exact⟨d.1,T9 ok s d.2⟩
def AC{a b:Nat}:(a&&&b==0)=U↔∃k,a.testBit k=Y/\b.testBit k=Y:=by
 constructor
 .intro h;have:a&&&b≠0:=by simpa using h
  obtain⟨k,j⟩:=jW this;rw[ce]at j;simp at j;exact⟨k,j⟩
 .rintro⟨k,h1,h2⟩;have:(a&&&b).testBit k=Y:=by rw[ce,h1,h2];rfl
  rw[bc];intro e;rw[e]at this;simp at this
def RC{a b:Nat}:(a&&&b==0)=Y↔∀k,a.testBit k=Y->b.testBit k=U:=by
 constructor
 .intro h k j;cases l:b.testBit k with
  |false=>rfl
  |true=>rw[AC.mpr ⟨k,j,l⟩]at h;cases h
 .intro h;cases he:(a&&&b==0) with
  |true=>rfl
  |false =>
   obtain⟨k,h1,h2⟩:=AC.mp he;rw[h k h1]at h2;cases h2
local macro_rules|`(tactic| walk_at "ev")=>`(tactic| try simp (disch:=fail"e") only[u1,sI,T5])
def XO{b:Bk}(ok:b.Ok):Zn [b.enc]=Z (pN (2^b.banes.length-1)):=by
 delta Zn;have j:=ok.g8;have l:=cN b.banes.length;ext
def WS(ok:b.Ok) held:YN [b.enc,pN held]=Z (pN (wb b held)):=by
 delta YN;ext;rw[XO ok,RB ok];ext;rfl
def Ua(ok:b.Ok) held:Zm [b.enc,pN held]=Z (pN (u2 b held)):=by
 delta Zm;ext;rw[WS ok];ext;rw[WS ok];rfl
def sJ(b:Bk)(held:Nat):Bool:=(held&&&stk b held==0)&&pO held (u2 b held)
def WT(ok:b.Ok) held:Rh [b.enc,pN held]=Z (.bl (sJ b held)):=by
 delta Rh sJ;ext;rw[QjK ok];cases held&&&stk b held==0 with
 |true =>
  ext;rw[Ua ok];ext
 |false=>ext
def AD(h:n<=8):2^n<=256:=dG (by decide) h
def rF a b:o7 (pN a) (.int b)=Z (.int (a+b)):=tH _ _
def rG a b:o7 (.int a) (pN b)=Z (.int (a+b)):=tH _ _
def Fp:ub N 2 m [l,B]=(m (Zp N [l,B])).bind CV:=rfl
def AE xs:CV (.ro xs)=Z xs:=rfl
def RD xs:isN (.lst xs)=U:=rfl
def RE b:isN (.bl b)=U:=rfl
def Qic(ok:b.Ok)(s:∀w,h1.testBit w=Y->h2.testBit w=Y)(d:(wb b h2).testBit g=Y):(wb b h1).testBit g=Y:=by
 rw[WR,aQ]at *;refine⟨d.1,?_⟩;cases hs:(stk b h1).testBit g with
 |false=>rfl
 |true=>have:=AB ok s hs;rw[this]at d;simp at d
def AF(ok:b.Ok)(s:∀w,h1.testBit w=Y->h2.testBit w=Y)(d:(u2 b h1).testBit g=Y):(u2 b h2).testBit g=Y :=
 Qic ok (λ_ h=>Qic ok s h) d
def Fq{b:Bk}{held:Nat}:sJ b held=Y↔(∀g,held.testBit g=Y->(stk b held).testBit g=U)/\∀g,held.testBit g=Y->(u2 b held).testBit g=Y:=by
 delta sJ;rw[aQ,RC,QE]
def AG(b:Bk):sJ b 0=Y:=Fq.mpr ⟨λg h=>by simp at h,λg h=>by simp at h⟩
def Ub(h1:a≠[])(h2:b≠[])(h:a.length+b.length<=100000):SU (.tup a) (.tup b)=Z (.tup (a++b)):=aw ⟨h1,h2,Ya h⟩
local macro_rules|`(tactic| walk_at "ev")=>`(tactic| try simp (disch:=fail"e") only[ri,u1,sI,T5])
def WU(l:n<=60)(h:m<2^n):Nc [pN m]=Z (.lst (oO (qG m))):=by
 have t:BO m<=60:=by
  delta BO;split
  .lia
  .rename_i j;have:=(md j).mpr h;lia
 delta Nc;ext;rw[Rb (λk=>m.testBit k) (ai (BO m)) λk u=>⟨_,rfl,by ext,rfl⟩];rfl
def WV(ok:b.Ok) held (hw:word<=1000):Ys [b.enc,pN held,pN word]=Z (.bl ((yl b held).testBit word)):=by
 delta Ys;ext;rw[T3 ok];ext;rw[YB]
def rR(b:Bk)(word zy:Nat):Prop:=(yl b zy).testBit word=Y/\∀g,zy.testBit g=Y->(yl b (qW zy (2^g))).testBit word=U
def RF a b k (h:(qW a b).testBit k=Y):a.testBit k=Y:=by
 rw[Xh]at h;simp at h;exact h.1
def Qee{b:Bk}(ok:b.Ok){within word:Nat}(I:within<2^b.banes.length)(hw:word<b.words)(hy:(yl b within).testBit word=Y) :
  ∃zy,QJ [b.enc,pN within,pN word]=Z (pN zy)/\(∀g,zy.testBit g=Y->within.testBit g=Y)/\rR b word zy:=by
 have E:=ok.w60;have M:=ok.g8;delta QJ;ext;rw[WV ok _ (by lia),hy];ext;rw[WU (show b.banes.length<=60 by lia) I];ext;obtain⟨J,e,zy,s4,s5,rfl,h1,h2,h3⟩:=QW (g:=oY 4) pN
  (λpre H=>∃(zy:Nat)(s4 s5:Slot),H=[.fz b.enc,.fz (pN within),.fz (pN word),.fz (pN zy),s4,s5]/\(∀g,zy.testBit g=Y->within.testBit g=Y)/\(yl b zy).testBit word=Y/\∀g∈pre,zy.testBit g=Y->(yl b (qW zy (2^g))).testBit word=U)
  (qG within) (qG within) [] [.fz b.enc,.fz (pN within),.fz (pN word),.fz (pN within),.un,.un] rfl ⟨within,.un,.un,rfl,λ_ h=>h,hy,by simp⟩ (by
   rintro pre g post H l ⟨zy,s4,s5,rfl,h1,h2,h3⟩;have u:g∈qG within:=by rw[<-l];simp
   have L:=Hk I (XA.mp u);have e:Wl [.fz b.enc,.fz (pN within),.fz (pN word),.fz (pN zy),.fz (pN g),s5]=Z (.nx (match (yl b (qW zy (2^g))).testBit word with
    |true=>[.fz b.enc,.fz (pN within),.fz (pN word),.fz (pN (qW zy (2^g))),.fz (pN g),.fz (pN (qW zy (2^g)))]
    |false=>[.fz b.enc,.fz (pN within),.fz (pN word),.fz (pN zy),.fz (pN g),.fz (pN (qW zy (2^g)))])):=by
    delta Wl;ext;rw[WV ok _ (by lia)];cases (yl b (qW zy (2^g))).testBit word with
    |_=>ext
   refine⟨_,_,rfl,e,?_⟩;cases B:(yl b (qW zy (2^g))).testBit word with
   |true =>
    refine⟨qW zy (2^g),_,_,rfl,λk B=>h1 k (RF _ _ _ B),B,λk j t=>?_⟩;rcases aS.mp j with z | z
    .cases D:(yl b (qW (qW zy (2^g)) (2^k))).testBit word with
     |false=>rfl
     |true =>
      have:=T9 ok (h2:=qW zy (2^k)) (λw hw=>by
       rw[Xh,Xh]at hw;rw[Xh];simp at hw;simp[hw]) D
      rw[h3 k z (RF _ _ _ t)]at this;cases this
    .rw[am.mp z,Xh,ie]at t;simp at t
   |false =>
    refine⟨zy,_,_,rfl,h1,h2,λk j t=>?_⟩;rcases aS.mp j with z | z
    .exact h3 k z t
    .rw[am.mp z];exact B)
 rw[show oO (qG within)=(qG within).map pN from rfl,e];ext;exact⟨zy,rfl,h1,h2,λg u=>h3 g (XA.mpr (h1 g u)) u⟩
def QdP(ok:b.Ok)(hw:word<b.words)(hy:(yl b within).testBit word=U):QJ [b.enc,pN within,pN word]=Z .non:=by
 have j:=ok.w60;delta QJ;ext;rw[WV ok _ (by lia),hy];ext
def bn(b:Bk)(g:Nat):Nat:=b.banes.getD g 0
def Hl(ok:b.Ok)(h:g<b.banes.length):bn b g<b.words:=Qlz ok h
def AH(h:j<b.banes.length):b.banes[j]?=Z (bn b j):=AA h
def Qlx{zy g:Nat}(h:zy.testBit g=Y):qW zy (2^g)=zy-2^g:=by
 delta qW;congr 1;refine bK λk=>?_;rw[ce,eV];by_cases j:g=k
 .subst j;simp[h]
 .simp[j]
def WW(h:a<2^n):qW a c<2^n:=by delta qW;omega
def LZ{zy W n:Nat}(hw:W<2^n)(h:∀g,zy.testBit g=Y->W.testBit g=Y):zy<2^n:=kE _ λi l=>by
 cases j:zy.testBit i with
 |false=>rfl
 |true=>have:=Hk hw (h i j);lia
local macro_rules|`(tactic| walk_at "ev")=>`(tactic| try simp (disch:=fail"e") only[ri,u1,sI,RD,RE,T5])
def QaI(ok:b.Ok)(B:l<2^b.banes.length)(D:l≠0)(I:within<2^b.banes.length)(hy:∀g,l.testBit g=Y->(yl b within).testBit (bn b g)=Y) :
  ∃g zy,Zt [b.enc,pN l,pN within]=Z (.tup [pN g,pN zy])/\l.testBit g=Y/\(∀k,zy.testBit k=Y->within.testBit k=Y)/\rR b (bn b g) zy:=by
 have L:=ok.g8;obtain⟨g,t,e⟩:∃g t,qG l=g::t:=by
  obtain⟨k,E⟩:=jW D;cases H:qG l with
  |nil =>
   have:=XA.mpr E;rw[H]at this;cases this
  |cons g t=>exact⟨g,t,rfl⟩
 have j:l.testBit g=Y:=XA.mp (by rw[e];simp);have u:=Hk B j;obtain⟨zy,J,h1,h2⟩:=Qee ok I (Hl ok u) (hy g j);refine⟨g,zy,?_,j,h1,h2⟩;delta Zt;ext;rw[WU (show b.banes.length<=60 by lia) B,e];ext;rw[AH u];ext;rw[J];ext
def L3 b held:sJ b held=((held&&&stk b held==0)&&(qW held (u2 b held)==0)):=by
 delta sJ;congr 1;rw[cf,QE,a9];constructor
 .intro h;refine bK λk=>?_;rw[Xh,iC];cases j:held.testBit k with
  |false=>rfl
  |true=>rw[h k j];rfl
 .intro h k j;have:(qW held (u2 b held)).testBit k=U:=by rw[h,iC]
  rw[Xh,j]at this;simpa using this
inductive Fs (b:Bk) (held:Nat):PV->Prop
 |non:sJ b held=Y->Fs b held .non
 |torn {g zy:Nat}:sJ b held=U->(held&&&stk b held==0)=U->held.testBit g=Y->(∀k,zy.testBit k=Y->held.testBit k=Y)->rR b (bn b g) zy->Fs b held (.tup [.str "torn",pN g,pN zy])
 |bare {g zy:Nat}:sJ b held=U->(held&&&stk b held==0)=Y->held.testBit g=Y->(∀k,zy.testBit k=Y->(wb b held).testBit k=Y)->rR b (bn b g) zy->Fs b held (.tup [.str "bare",pN g,pN zy])
def L4{b:Bk}(ok:b.Ok){held:Nat}(B:held<2^b.banes.length):∃p,Rg [b.enc,pN held]=Z p/\Fs b held p:=by
 delta Rg;ext;rw[RB ok];ext;have j:=L3 b held;cases hz:(held&&&stk b held==0) with
 |false =>
  rw[hz,Bool.false_and]at j;have t :=by simpa using hz
  obtain⟨g,zy,e,h1,h2,h3⟩:=QaI ok (hL iS B) t B (λg l=>by
   rw[ce,aQ]at l;exact(WQ.mp l.2).2)
  rw[show(held&&&stk b held != 0)=Y by simpa using t];ext;rw[e];ext;ext;refine⟨_,rfl,.torn j hz ?_ h2 h3⟩;rw[ce,aQ]at h1;exact h1.1
 |true =>
  rw[hz,fU]at j;rw[show(held&&&stk b held != 0)=U by rw[bne,hz];rfl];ext;rw[Ua ok];ext;cases u:(qW held (u2 b held)==0) with
  |true =>
   rw[show(qW held (u2 b held) != 0)=U by rw[bne,u];rfl];ext;exact⟨_,rfl,.non (by rw[j,u])⟩
  |false =>
   have t :=by simpa using u
   obtain⟨g,zy,e,h1,h2,h3⟩:=QaI ok (WW B) t (T8 b held) (λg l=>by
    have D:=Hk (WW B) l;rw[Xh]at l;have hd:(u2 b held).testBit g=U:=by
     cases hq:(u2 b held).testBit g with
     |false=>rfl
     |true=>rw[hq]at l;simp at l
    have e:(u2 b held).testBit g=(decide (g<b.banes.length) && !(stk b (wb b held)).testBit g):=WR;rw[hd,a8 D,fU]at e;have :=by simpa using e.symm
    exact(WQ.mp this).2)
   rw[show(qW held (u2 b held) != 0)=Y by simpa using t];ext;rw[WS ok];ext;rw[e];ext;ext;exact⟨_,rfl,.bare (by rw[j,u]) hz (RF _ _ _ h1) h2 h3⟩
def QkW(bs:List Bool):OJ [.lst (bs.map .bl)]=Z (.bl (bs.any id)):=by
 show(sQ (bs.map PV.bl)).map (λbs=>PV.bl (bs.any id))=_;rw[QiS];rfl
def it(b:Bk):Nat->Nat
 |0=>0
 |i+1=>u2 b (it b i)
theorem Uc b:∀i,it b i<2^b.banes.length
 |0=>cN _
 |i+1=>LY b _
def Qlh(ok:b.Ok):∀i {g:Nat},(it b i).testBit g=Y->(it b (i+1)).testBit g=Y:=by
 intro i;induction i with
 |zero =>
  intro g h;unfold it at h;simp at h
 |succ i j =>
  intro g h;exact AF ok (λw hw=>j hw) h
def wc(b:Bk)(i:Nat):Nat:=((ai b.banes.length).filter λg => !(it b i).testBit g).length
def L5(ok:b.Ok)(h:it b (i+1)≠it b i):wc b (i+1)<wc b i:=by
 obtain⟨g,j,l⟩:∃g,(it b (i+1)).testBit g=Y/\(it b i).testBit g=U:=by
  refine b5 λt=>h ?_;refine bK λg=>?_;cases h1:(it b i).testBit g with
  |true=>exact Qlh ok i h1
  |false =>
   cases h2:(it b (i+1)).testBit g with
   |false=>rfl
   |true=>exact absurd ⟨g,h2,h1⟩ t
 exact WL (aR.mpr (Hk (Uc b (i+1)) j)) (by simp[l]) (by simp[j]) λy hy=>by
  cases h2:(it b i).testBit y with
  |false=>rfl
  |true=>rw[Qlh ok i h2]at hy;cases hy
def vR(b:Bk)(m:Nat):Prop:=it b (m+1)=it b m/\∀j,j<m->it b (j+1)≠it b j
def vR.unique(h:vR b m)(B:vR b l):m=l:=by
 rcases h7 m l with q | q | q
 .exact absurd h.1 (B.2 m q)
 .exact q
 .exact absurd B.1 (h.2 l q)
def itL(b:Bk)(m:Nat):List Nat:=(ai (m+1)).map (it b)
def AI{b:Bk}(ok:b.Ok):∃m,TK [b.enc]=Z (.lst (oO (itL b m)))/\vR b m/\m<=8:=by
 have L:=ok.g8;delta TK;ext;obtain⟨J,e,i,rfl,h1,h2,h3⟩:=WN (t:=oQ (oJ sg (Qb Zm (Qa (nP 0) (Qa (nP 1) oK))) (nP 1))) (b:=Wm)
  (Post:=λl=>∃i,l=[.fz b.enc,.fz (pN (it b i)),.ow (oO (itL b i))]/\it b (i+1)=it b i/\(∀j,j<i->it b (j+1)≠it b j)/\wc b i+i<=wc b 0)
  (λn l=>∃i,l=[.fz b.enc,.fz (pN (it b i)),.ow (oO (itL b i))]/\(∀j,j<i->it b (j+1)≠it b j)/\n=wc b i/\wc b i+i<=wc b 0)
  (by
   rintro n l ⟨i,rfl,D,rfl,E⟩;have H:(oQ (oJ sg (Qb Zm (Qa (nP 0) (Qa (nP 1) oK))) (nP 1))) [.fz b.enc,.fz (pN (it b i)),.ow (oO (itL b i))]=Z (!(it b (i+1)==it b i)):=by
    ext;rw[Ua ok];ext;rfl
   by_cases he:it b (i+1)=it b i
   .exact .inl ⟨by rw[H,show(it b (i+1)==it b i)=Y by rw[a9];exact he];rfl,i,rfl,he,D,E⟩
   .have u:=L5 ok he;refine .inr ⟨by rw[H,show(it b (i+1)==it b i)=U by rw[bc];exact he];rfl,_,wc b (i+1),?_,u,i+1,rfl,λj M=>?_,rfl,by lia⟩
    .have I:i<=8:=by
      have:=bf (λg => !(it b 0).testBit g) (ai b.banes.length);rw[ao]at this;delta wc at E;lia
     delta Wm;ext;rw[Ua ok];ext;rw[Zj (by rw[pF];delta itL;rw[ag,ao];lia) rfl];ext;delta itL;rw[gL (n:=i+1),bw,<-Wg];rfl
    .by_cases B:j=i
     .subst B;exact he
     .exact D j (by lia))
  1000 (wc b 0) [.fz b.enc,.fz (pN (it b 0)),.ow (oO (itL b 0))] ⟨0,rfl,by simp,rfl,by lia⟩ (by
   have:=bf (λg => !(it b 0).testBit g) (ai b.banes.length);rw[ao]at this;delta wc;lia)
 have I:i<=8:=by
  have:=bf (λg => !(it b 0).testBit g) (ai b.banes.length);rw[ao]at this;delta wc at h3;lia
 delta Oq;rw[show([Slot.fz b.enc,Slot.fz (pN 0),Slot.ow [pN 0]])=[.fz b.enc,.fz (pN (it b 0)),.ow (oO (itL b 0))] from rfl,e];ext;exact⟨i,rfl,⟨h1,h2⟩,I⟩
def QmN{α:Type} f (v:α->PV) p (I:oN->Prop):∀(xs:List α) l,I l ->
  (∀x∈xs,∀l,I l->∃γ1,g (f x) l=Z γ1/\(p x=U->∃B,b γ1=Z (.nx B)/\I B)/\(p x=Y->b γ1=Z (.rt (v x)))) ->
  (xs.find? p=O/\∃D,pQ g b (xs.map f) l=Z (.nx D)/\I D)\/∃x,xs.find? p=Z x/\pQ g b (xs.map f) l=Z (.rt (v x)):=by
 intro xs;induction xs with
 |nil =>
  intro l t _;exact .inl ⟨rfl,l,rfl,t⟩
 |cons x xs u =>
  intro l t step;obtain⟨γ1,e1,h1,h2⟩:=step x (by simp) l t;cases j:p x with
  |true =>
   refine .inr ⟨x,by simp[j],?_⟩;rw[aT];unfold pQ;rw[e1,bm,h2 j];rfl
  |false =>
   obtain⟨B,e2,h3⟩:=h1 j;rw[aT,Tv e1 e2,List.find?_cons_of_neg (by simp[j])];exact u B h3 λy hy=>step y (by simp[hy])
def rz(b:Bk)(n g:Nat):PV:=match (ai n).find? (λj=>(it b j).testBit g) with
 |some j=>pN j
 |none=>.non
def QmT(I:g<=1000)(hm:m<=8):TL [.lst (oO (itL b m)),pN g]=Z (rz b (m+1) g):=by
 delta TL;ext;rw[Az,show(itL b m).length=m+1 by delta itL;simp];have B:∀j,j∈ai (m+1)->(itL b m).getD j 0=it b j:=λj l=>by
  have:=aR.mp l;delta itL;simp[this]
 rw[dX λj l=>by rw[B j l]];rcases QmN (g:=ZQ 2 3) (λj=>PV.tup [pN j,pN (it b j)]) pN (λj=>(it b j).testBit g) (λu=>∃s2 s3,u=[.fz (.lst (oO (itL b m))),.fz (pN g),s2,s3])
  (ai (m+1)) [.fz (.lst (oO (itL b m))),.fz (pN g),.un,.un] ⟨.un,.un,rfl⟩ (by
   rintro j l u ⟨s2,s3,rfl⟩;refine⟨_,rfl,?_⟩;have e:Xx [.fz (.lst (oO (itL b m))),.fz (pN g),.fz (pN j),.fz (pN (it b j))]=Tt (YF 2) pr [.fz (.lst (oO (itL b m))),.fz (pN g),.fz (pN j),.fz (pN (it b j))] ((it b j).testBit g):=by
    delta Xx;ext;rw[YB]
   show(_->∃D,Xx [.fz (.lst (oO (itL b m))),.fz (pN g),.fz (pN j),.fz (pN (it b j))]=_/\_)/\(_->Xx [.fz (.lst (oO (itL b m))),.fz (pN g),.fz (pN j),.fz (pN (it b j))]=_);rw[e];cases (it b j).testBit g with
   |true=>exact⟨λh=>(by cases h),λ_=>rfl⟩
   |false=>exact⟨λ_=>⟨_,rfl,_,_,rfl⟩,λh=>by cases h⟩) with⟨t,E,e,s2,s3,rfl⟩|⟨j,t,e⟩
 .rw[e];ext;delta rz;rw[t]
 .rw[e];ext;delta rz;rw[t]
def Ft b n g:flat (rz b n g)=Y:=by
 delta rz;split<;>rfl
def QfO{b:Bk}(ok:b.Ok):∃m,QS [b.enc]=Z (.tup [pN (it b m),.tup ((ai b.banes.length).map λg=>rz b (m+1) g)])/\vR b m/\m<=8:=by
 have l:=ok.g8;obtain⟨m,e,h1,h2⟩:=AI ok;refine⟨m,?_,h1,h2⟩;delta QS;ext;rw[e];ext;rw[G8 (λg=>rz b (m+1) g) (ai b.banes.length) λg j=>⟨_,rfl,by
  have:=aR.mp j;ext;rw[QmT (by lia) h2]⟩]
 rw[gK,show((ai b.banes.length).map λg=>rz b (m+1) g).all flat=Y by rw[eR,aX];exact λg _=>Ft b _ g];ext;rw[show rX (oO (itL b m)) (-((1:Nat):Int))=Z (pN (it b m)) by
  delta itL;rw[gL,bw,<-Wg];exact th _ _]
 ext
def Fu{N:Nat}{m:pW}{l B D:PV}:ub N 3 m [l,B,D]=(m (Zp N [l,B,D])).bind CV:=rfl
def Qmb(h:pre++x::post=ai N):pre=ai x/\x<N:=by
 have l:=congrArg dt h;simp at l;have j:(ai N)[pre.length]?=Z x:=by rw[<-h];simp
 rw[dr (by lia)]at j;cases j;refine⟨?_,by lia⟩;have:=congrArg (List.take pre.length) h;rw[ku,op,j8 (by lia)]at this;exact this
def WX{V zy:Nat}(h:∀k,V.testBit k=Y->zy.testBit k=Y):V<=zy:=by
 have:zy&&&V=V:=bK λi=>by
  rw[ce];cases hc:V.testBit i with
  |false=>simp
  |true=>rw[h i hc];rfl
 rw[<-this];exact iS
def qT(b:Bk)(h:Nat):Bool:=sJ b h&&(ai (2^b.banes.length)).all λk => !(sJ b k&&pO h k)||k==h
def pL(b:Bk)(l:Nat):List Nat:=(ai (2^b.banes.length)).filter λh=>qT b h&&pO l h
def WY:qT b h=Y↔sJ b h=Y/\∀k,k<2^b.banes.length->sJ b k=Y->pO h k=Y->k=h:=by
 delta qT;rw[aQ,aX];refine and_congr_right λ_=>⟨λq k h1 h2 h3=>?_,λq k j=>?_⟩
 .have:=q k (aR.mpr h1);rw[h2,h3]at this;simpa using this
 .cases h2:sJ b k with
  |false=>rfl
  |true =>
   cases h3:pO h k with
   |false=>rfl
   |true=>simpa using q k (aR.mp j) h2 h3
def AJ(l:h<2^b.banes.length)(hs:sJ b h=Y):∃c,c<2^b.banes.length/\qT b c=Y/\pO h c=Y:=by
 induction hd:2^b.banes.length-h using j7 generalizing h with
 |_ d t =>
  by_cases hc:∃k,k<2^b.banes.length/\sJ b k=Y/\pO h k=Y/\k≠h
  .obtain⟨k,k1,k2,j,E⟩:=hc;have:=WX (QE.mp j);obtain⟨c,u,B,D⟩:=t (2^b.banes.length-k) (by lia) k1 k2 rfl;exact⟨c,u,B,QE.mpr λw hw=>QE.mp D w (QE.mp j w hw)⟩
  .refine⟨h,l,WY.mpr ⟨hs,λk k1 k2 j=>?_⟩,QE.mpr λ_ z=>z⟩;exact b5 λz=>hc ⟨k,k1,k2,j,z⟩
def QiD:h∈pL b l↔h<2^b.banes.length/\qT b h=Y/\pO l h=Y:=by
 delta pL;rw[aK,aR,aQ]
def QmB(h:Nat):pO 0 h=Y:=QE.mpr λk j=>by simp at j
def XD(ok:b.Ok) l:(pL b l).length<=256:=by
 have:=bf (λh=>qT b h&&pO l h) (ai (2^b.banes.length));rw[ao]at this;have:=AD ok.g8;delta pL;lia
def Fv(b:Bk):pL b 0≠[]:=λz=>by
 obtain⟨c,j,l,_⟩:=AJ (b:=b) (h:=0) (cN _) (AG b);have:=QiD.mpr ⟨j,l,QmB c⟩;rw[z]at this;cases this
def AK(h:pre++x::post=(ai (2^b.banes.length)).reverse) :
  x<2^b.banes.length/\(!((pre.filter (qT b)).any λc=>pO x c)&&sJ b x)=qT b x:=by
 have j :=by
  have:=congrArg List.reverse h;simpa using this
 obtain⟨e1,e2⟩:=Qmb j;have D:∀y,y∈pre->x<y/\y<2^b.banes.length:=λy hy=>by
  have pw:(post.reverse++x::pre.reverse).Pairwise (· < ·):=by rw[j];exact fq
  have q:=(eM.mp pw).2.1;refine⟨(b0.mp q).1 y (by simpa using hy),?_⟩;have:y∈ai (2^b.banes.length):=by rw[<-j];simp[hy]
  exact aR.mp this
 have hq:∀y,x<y->y<2^b.banes.length->y∈pre:=λy h1 h2=>by
  have:y∈post.reverse++x::pre.reverse:=by rw[j];exact aR.mpr h2
  rw[e1]at this;rcases aS.mp this with z | z
  .have:=aR.mp z;lia
  .rcases ap.mp z with z | z
   .lia
   .simpa using z
 refine⟨e2,?_⟩;rw[cf,aQ,gu,eQ,WY];constructor
 .rintro⟨k1,k2⟩;refine⟨k2,λk h1 h2 h3=>b5 λE=>?_⟩;obtain⟨c,l,t,B⟩:=AJ h1 h2;have l1:=WX (QE.mp h3);have l2:=WX (QE.mp B);exact k1 c (aK.mpr ⟨hq c (by lia) l,t⟩) (QE.mpr λw hw=>QE.mp B w (QE.mp h3 w hw))
 .rintro⟨k1,k2⟩;refine⟨λc hc u=>?_,k1⟩;obtain⟨l,t⟩:=aK.mp hc;obtain⟨p1,p2⟩:=D c l;have:=k2 c p2 (WY.mp t).1 u;lia
def RG(h:a<=100000):Df (pN a) (.int (-((1:Nat)))) (.int (-((1:Nat))))=Z (oO (ai (a+1)).reverse):=by
 have h1:vA (a)=Y:=Vk (by lia) (by lia);have h2:vA (-(1))=Y:=Vk (by lia) (by lia);show(if (-1) = -1/\vA (a)=Y/\vA (-(1))=Y then Z (ue a (-(1))) else O)=_;rw[aw ⟨rfl,h1,h2⟩];congr 1;delta ue oO;refine fM (by simp) λi h1 h2=>?_;simp at h1 h2;simp[pN];lia
theorem Qiq:∀xs ys:List Nat,pP (oO xs) (oO ys)=(xs==ys)
 |[],[]=>rfl
 |[],y::ys=>rfl
 |x::xs,[]=>rfl
 |x::xs,y::ys=>by
  show(peq (pN x) (pN y)&&pP (oO xs) (oO ys))=_;rw[Qiq xs ys,show peq (pN x) (pN y)=(x==y) by
   show((x:Int)==(y:Int))=(x==y);rw[cf,a9,a9];lia]
  rfl
def L6(xs ys:List Nat):pC (.lst (oO xs)) (.lst (oO ys))=Z (.bl (xs==ys)):=by rw[Wa (T4 _) (T4 _)];show Z (PV.bl (pP _ _))=_;rw[Qiq]
def Fw B D I l:JM B D I l=(B l).bind λp=>(D l).bind λq=>(I l).bind λr=>Df p q r:=rfl
def L7 xs:uF [.lst (oO xs)]=Z (oO xs.reverse):=by show Z (oO xs).reverse=_;delta oO;rw[jL]
local macro_rules|`(tactic| walk_at "ev")=>`(tactic| try simp (disch:=fail"e") only[Hg,qR,Fw,L7,RG,vk])
def Ud{b:Bk}(ok:b.Ok) l:Xz [b.enc,pN l]=Z (.tup (oO (pL b l))):=by
 have I:=ok.g8;have zy:=cN b.banes.length;have J:=AD I;delta Xz d_camps;ext;rw[XO ok];ext;rw[show 2^b.banes.length-1+1=2^b.banes.length by lia];obtain⟨L,e,s3,s4,rfl⟩:=QW (g:=oY 3) (b:=Wn) pN (λpre D=>∃s3 s4,D=[.fz b.enc,.fz (pN l),.ow (oO (pre.filter (qT b))),s3,s4])
  (ai (2^b.banes.length)).reverse (ai (2^b.banes.length)).reverse [] [.fz b.enc,.fz (pN l),.ow (oO []),.un,.un] rfl ⟨.un,.un,rfl⟩ (by
   rintro pre j post D u ⟨s3,s4,rfl⟩;obtain⟨T,t⟩:=AK u;have zx:(pre.filter (qT b)).length<=256:=by
    have h1:=bf (qT b) pre;have h2:=congrArg dt u;simp at h2;lia
   refine⟨_,_,rfl,?_,.fz (pN j),.fz (.bl ((pre.filter (qT b)).any λc=>pO j c)),rfl⟩;rw[m9];generalize pre.filter (qT b)=B at *;delta Wn;ext;rw[show oO B=B.map pN from rfl,Qk pN (λc=>PV.bl (pO j c)) B λc hc=>⟨_,rfl,by ext⟩];rw[show(B.map λc=>PV.bl (pO j c))=(B.map λc=>pO j c).map PV.bl by rw[aB];rfl];ext;rw[QkW,gS,show(id∘λc=>pO j c)=λc=>pO j c from rfl];ext;rw[show B.map pN=oO B from rfl];cases E:B.any (λc=>pO j c) with
   |true =>
    rw[E]at t;rw[cm (by rw[<-t];simp)];ext;simp
   |false =>
    rw[E]at t;ext;rw[WT ok];ext;cases H:sJ b j with
    |true =>
     rw[H]at t;rw[de (by rw[<-t];rfl)];ext;rw[Zj (by rw[pF];lia) rfl];ext;simp[oO]
    |false =>
     rw[H]at t;rw[cm (by rw[<-t];simp)];ext;simp)
 rw[show([]:List PV)=oO [] from rfl,show oO (ai (2^b.banes.length)).reverse=(ai (2^b.banes.length)).reverse.map pN from rfl,e];ext;have M:(mj (qT b) (ai (2^b.banes.length)).reverse).length<=256:=by
  have:=bf (qT b) (ai (2^b.banes.length)).reverse;rw[fQ,ao]at this;lia
 rw[show(oO (mj (qT b) (ai (2^b.banes.length)).reverse)).reverse=oO (mj (qT b) (ai (2^b.banes.length)).reverse).reverse by delta oO;rw[jL],qB (by rw[pF,fQ];lia)];rw[Rb (λc=>pO l c) _ λc hc=>⟨_,rfl,by ext,by ext⟩];ext;rw[<-List.filter_reverse,i3,List.filter_filter];delta pL;congr 4;funext h;rw[Bool.and_comm]
def BQ(b:Bk)(word zy:Nat):Bool := @decide (rR b word zy) (e9 _)
def Ue{b:Bk}{word zy:Nat}:BQ b word zy=Y↔rR b word zy:=by
 delta BQ;exact @bM (rR b word zy) (e9 _)
def vo(b:Bk)(word:Nat):List Nat:=(ai (2^b.banes.length)).filter (BQ b word)
def XV{b:Bk}{word zy:Nat}:zy∈vo b word↔zy<2^b.banes.length/\rR b word zy:=by
 delta vo;rw[aK,aR,Ue]
def sub_le{V zy:Nat}(h:∀k,V.testBit k=Y->zy.testBit k=Y):V<=zy:=by
 have:zy&&&V=V:=bK λi=>by
  rw[ce];cases hc:V.testBit i with
  |false=>simp
  |true=>rw[h i hc];rfl
 rw[<-this];exact iS
def RH{b:Bk}(ok:b.Ok){within word:Nat}(B:within<2^b.banes.length)(hw:word<b.words)(hy:(yl b within).testBit word=Y):∃zy,(∀g,zy.testBit g=Y->within.testBit g=Y)/\rR b word zy:=by
 clear B hw ok;induction within using j7 with
 |_ within t =>
  by_cases h:∃g,within.testBit g=Y/\(yl b (qW within (2^g))).testBit word=Y
  .obtain⟨g,h1,h2⟩:=h;have l:qW within (2^g)<within:=by
    rw[Qlx h1];have:=cN g;have:2^g<=within:=hV h1;omega
   obtain⟨zy,u,D⟩:=t _ l h2;exact⟨zy,λk j=>RF _ _ _ (u k j),D⟩
  .refine⟨within,λ_ h=>h,hy,λg E=>?_⟩;cases j:(yl b (qW within (2^g))).testBit word with
   |false=>rfl
   |true=>exact absurd ⟨g,E,j⟩ h
def Fx{b:Bk}(ok:b.Ok){word j:Nat}(I:j<2^b.banes.length)(hw:word<b.words):(!((ai j).filter (BQ b word)).any (λV=>pO V j)&&(yl b j).testBit word)=BQ b word j:=by
 rw[cf,Ue,aQ,gu,eQ];constructor
 .rintro⟨h1,h2⟩;refine⟨h2,λg B=>?_⟩;cases hy:(yl b (qW j (2^g))).testBit word with
  |false=>rfl
  |true =>
   obtain⟨V,D,H⟩:=RH ok (WW I) hw hy;have J:=sub_le D;have L:qW j (2^g)<j:=by
    rw[Qlx B];have:=cN g;have:2^g<=j:=hV B;lia
   have:=h1 V (aK.mpr ⟨aR.mpr (by lia),Ue.mpr H⟩);exact absurd (QE.mpr λk M=>RF _ _ _ (D k M)) this
 .intro h;refine⟨λV E l=>?_,h.1⟩;rw[aK,aR,Ue]at E;have hs:=QE.mp l;obtain⟨g,t,u⟩:∃g,j.testBit g=Y/\V.testBit g=U:=by
   refine b5 λzy=>?_;have:V=j:=bK λg=>by
    cases h1:j.testBit g with
    |true =>
     cases h2:V.testBit g with
     |true=>rfl
     |false=>exact absurd ⟨g,h1,h2⟩ zy
    |false =>
     cases h2:V.testBit g with
     |false=>rfl
     |true=>rw[hs g h2]at h1;cases h1
   lia
  have:=T9 ok (h1:=V) (h2:=qW j (2^g)) (λw hw=>by
   rw[Xh,hs w hw,eV,a5]
   .rfl
   .rintro rfl;rw[u]at hw;cases hw) E.2.1
  rw[h.2 g t]at this;cases this
def BR(b:Bk):List Nat:=(ai (2^b.banes.length)).map (yl b)
def L8(b:Bk):(BR b).length=2^b.banes.length:=by delta BR;rw[ag,ao]
def L9{b:Bk}{h:Nat}(l:h<2^b.banes.length):(BR b).getD h 0=yl b h:=by
 delta BR;rw[d8,aI,dr l];rfl
def Qjl{pre post:List Nat}{x N:Nat}(h:pre++x::post=ai N):pre=ai x/\x<N:=by
 have l:=congrArg dt h;simp at l;have j:(ai N)[pre.length]?=Z x:=by rw[<-h];simp
 rw[dr (by lia)]at j;cases j;refine⟨?_,by lia⟩;have:=congrArg (List.take pre.length) h;rw[ku,op,j8 (by lia)]at this;exact this
local macro_rules|`(tactic| walk_at "ev")=>`(tactic| try simp (disch:=fail"e") only[Hg,qR,vi,Az,vj,vk])
def RI{b:Bk}(ok:b.Ok):Zo [b.enc]=Z (.lst (oO (BR b))):=by
 have j:=ok.g8;have t:=cN b.banes.length;have l:=AD j;delta Zo;ext;rw[XO ok];ext;rw[show 2^b.banes.length-1+1=2^b.banes.length by lia];ext;rw[Tz (yl b) _ λh u=>⟨_,rfl,by ext;rw[T3 ok]⟩];ext;rfl
def Qcz{b:Bk}(ok:b.Ok){word:Nat}(hw:word<b.words):ZB [.lst (oO (BR b)),pN word]=Z (.tup (oO (vo b word))):=by
 have I:=ok.w60;have J:=ok.g8;have zy:=cN b.banes.length;have L:=AD J;delta ZB;ext;rw[L8];obtain⟨M,e,s3,s4,rfl⟩:=QW (g:=ZQ 3 4) (b:=Yk) (λg=>PV.tup [pN g,pN ((BR b).getD g 0)]) (λpre B=>∃s3 s4,B=[.fz (.lst (oO (BR b))),.fz (pN word),.ow (oO (pre.filter (BQ b word))),s3,s4])
  (ai (2^b.banes.length)) (ai (2^b.banes.length)) [] [.fz (.lst (oO (BR b))),.fz (pN word),.ow (oO []),.un,.un] rfl ⟨.un,.un,rfl⟩ (by
   rintro pre j post B u ⟨s3,s4,rfl⟩;obtain⟨rfl,D⟩:=Qjl u;have T:((ai j).filter (BQ b word)).length<=256:=by
    have:=bf (BQ b word) (ai j);rw[ao]at this;lia
   have t:=Fx ok D hw;refine⟨_,_,rfl,?_,.fz (pN j),.fz (pN ((BR b).getD j 0)),rfl⟩;rw[L9 D,m9];generalize (ai j).filter (BQ b word)=l at *;delta Yk;ext;rw[YB];cases E:(yl b j).testBit word with
   |false =>
    rw[E]at t;rw[cm (by rw[<-t];simp)];ext;simp
   |true =>
    rw[E]at t;ext;rw[show oO l=l.map pN from rfl,Qk pN (λV=>PV.bl (pO V j)) l λV zx=>⟨_,rfl,by ext⟩];rw[show(l.map λV=>PV.bl (pO V j))=(l.map λV=>pO V j).map PV.bl by rw[aB];rfl];ext;rw[QkW,gS,show(id∘λV=>pO V j)=λV=>pO V j from rfl];ext;rw[show l.map pN=oO l from rfl];cases H:l.any (λV=>pO V j) with
    |true =>
     rw[H]at t;rw[cm (by rw[<-t];simp)];ext;simp
    |false =>
     rw[H]at t;rw[de (by rw[<-t];rfl)];ext;rw[Zj (by rw[pF];lia) rfl];ext;simp[oO])
 rw[show oO []=([]:List PV) from rfl]at e;rw[e];ext;rfl
def QfP{b:Bk}(ok:b.Ok){word:Nat}(hw:word<b.words):YS [b.enc,pN word]=Z (.tup (oO (vo b word))):=by
 delta YS;ext;rw[RI ok];ext;rw[Qcz ok hw];ext
def Ma{b:Bk}(ok:b.Ok)(word:Nat):(vo b word).length<=256:=by
 have:=bf (BQ b word) (ai (2^b.banes.length));rw[ao]at this;have:=AD ok.g8;delta vo;lia
def Nk(h:s1 B t=Z (.nx l t')):rZ s1 s2 B t=s2 l t':=by
 delta rZ;rw[h];rfl
def Fy(h:m B=Z (.nx l))(D:Zz l j=Zz B j):OR j m B t=Z (.nx l t):=by
 delta OR;rw[h];show(if Zz l j=Zz B j then Z (Dl.nx l t) else O)=_;rw[aw D]
def Fz(h1:D l=Z qs)(h2:Zz l j=Z a)(h3:B t=Y)(I:g a qs t=Z t'):OU j ms B g D l t=Z (.nx (frz ms l) t'):=by
 delta OU;rw[h1,bm,h2,bm,aw h3,I];rfl
def WZ(h:m l=Z r)(B:JX f r t=Z t'):vh ms f m l t=Z (.nx (frz ms l) t'):=by
 delta vh;rw[h,bm,B];rfl
def vp C f m l:uL C f m l=(m l).bind (vH C f):=rfl
def Mb(C:Addr)(f:Str)(g:List PV->Option PV)(o:Option (List PV))(q:PV):Option PV:=if JW C f q=Y then o.bind λps=>g (q::ps) else O
def AL C f g m B l:S6 C f g m B l=(m l).bind (Mb C f g (B l)):=rfl
def RU(b:Bk)(c w:Nat):Nat:=nH λzy=>QJ [b.enc,pN c,pN w]=Z (pN zy)/\(∀g,zy.testBit g=Y->c.testBit g=Y)/\rR b w zy
def Uf(ok:b.Ok)(hc:c<2^b.banes.length)(hw:w<b.words)(hy:(yl b c).testBit w=Y) :
  QJ [b.enc,pN c,pN w]=Z (pN (RU b c w))/\(∀g,(RU b c w).testBit g=Y->c.testBit g=Y)/\rR b w (RU b c w) :=
 lD (Qee ok hc hw hy)
def tX(b:Bk)(w c:Nat):PV:=if (yl b c).testBit w=Y then pN (RU b c w) else .non
def RJ(ok:b.Ok)(hc:c<2^b.banes.length)(hw:w<b.words):QJ [b.enc,pN c,pN w]=Z (tX b w c):=by
 delta tX;cases hy:(yl b c).testBit w with
 |true=>exact(Uf ok hc hw hy).1
 |false=>exact QdP ok hw hy
def RK b w c:isN (tX b w c) = !(yl b c).testBit w:=by
 delta tX;cases (yl b c).testBit w<;>rfl
def AN b w c:flat (tX b w c)=Y:=by
 delta tX;cases (yl b c).testBit w<;>rfl
def vS(b:Bk)(w c:Nat):PV := .tup [pN c,tX b w c]
def Ug(h1:B l=Z (.opq a::rs))(h2:Zz l j=Z a)(h3:g a rs t=Z t'):GP j ms g B l t=Z (.nx (frz ms l) t'):=by
 delta GP;rw[h1,bm,h2,bm];show((if a=a then g a rs t else O).map _)=_;rw[aw rfl,h3];rfl
def AO m a p q (t:l):qA 3 3 m a [p,q] t=(m [.fz (.opq a),.fz p,.fz q] t).bind yj:=rfl
def AQ m a p (t:l):qA 2 2 m a [p] t=(m [.fz (.opq a),.fz p] t).bind yj:=rfl
def Mc m a p q r s (t:l):qA 5 5 m a [p,q,r,s] t=(m [.fz (.opq a),.fz p,.fz q,.fz r,.fz s] t).bind yj:=rfl
def Uh a p q:QY a [p,q] ⟨[],[],O⟩=Z ⟨["word","name"],[p,q],O⟩:=by
 rfl
def QmD a p q:Zb a [p,q] ⟨[],[],O⟩=Z ⟨["word","name","reason"],[p,.str "settled",q],O⟩:=by
 delta Zb;rw[AO,Nk (Ug rfl rfl (Uh a p (.str "settled")))];rfl
def Md a p q:ZU a [p,q] ⟨[],[],O⟩=Z ⟨["word","name","pairs"],[p,.str "sure",q],O⟩:=by
 delta ZU;rw[AO,Nk (Ug rfl rfl (Uh a p (.str "sure")))];rfl
def FA a p:ZC a [p] ⟨[],[],O⟩=Z ⟨["word","name"],[p,.str "never"],O⟩:=by
 delta ZC;rw[AQ,Ug rfl rfl (Uh a p (.str "never"))];rfl
def FC a p q r s:ZD a [p,q,r,s] ⟨[],[],O⟩=Z ⟨["word","name","camp","reason","other"],[p,.str "maybe",q,r,s],O⟩:=by
 delta ZD;rw[Mc,Nk (Ug rfl rfl (Uh a p (.str "maybe")))];rfl
def RL(h1:l B=Z qs)(h2:∀a,g a qs ⟨[],[],O⟩=Z ⟨ks,ps,O⟩):tG C g l B=Z (.obj C ks ps):=by
 delta tG;rw[h1,bm,Dt h2];rfl
def pU(b:Bk)(w:Nat):List Nat:=(pL b 0).filter λc=>(yl b c).testBit w
def se(b:Bk)(w:Nat):List Nat:=(pL b 0).filter λc => !(yl b c).testBit w
def Ui(C:Nat->Addr)(w zy:Nat):PV := .obj (C 1) ["word","name","reason"] [pN w,.str "settled",pN zy]
def AR(C:Nat->Addr)(w:Nat)(ps:List PV):PV := .obj (C 2) ["word","name","pairs"] [pN w,.str "sure",.tup ps]
def Uj(C:Nat->Addr)(w c zy d:Nat):PV := .obj (C 3) ["word","name","camp","reason","other"] [pN w,.str "maybe",pN c,pN zy,pN d]
def W0(C:Nat->Addr)(w:Nat):PV := .obj (C 4) ["word","name"] [pN w,.str "never"]
def AS(C:Nat->Addr)(b:Bk)(m w:Nat):PV :=
 if (yl b (it b m)).testBit w=Y then Ui C w (RU b (it b m) w) else if (se b w).isEmpty=Y then AR C w ((pU b w).map (vS b w)) else if (pU b w).isEmpty=Y then W0 C w
 else Uj C w ((pU b w).getD 0 0) (RU b ((pU b w).getD 0 0) w) ((se b w).getD 0 0)
def FD b w c:oU (vS b w c) (pN 0)=Z (pN c):=rfl
def FE b w c:oU (vS b w c) (pN 1)=Z (tX b w c):=rfl
def FF xs:(oO xs).isEmpty=xs.isEmpty:=by cases xs<;>rfl
def FG(f:Nat->PV)(xs:List Nat):(xs.map f).isEmpty=xs.isEmpty:=by cases xs<;>rfl
local macro_rules|`(tactic| walk_at "ev")=>`(tactic| try simp (disch:=fail"e") only[qE,qj,qF,pK,FD,FE,RK,AN,vk])
def RM C {b:Bk} (ok:b.Ok) {w m:Nat} (hw:w<b.words) (I:vR b m):TQ C [b.enc,pN w]=Z (AS C b m w):=by
 obtain⟨M,J,j,_⟩:=QfO ok;have:=I.unique j;subst this;have D:=XD ok 0;delta TQ AS;ext;rw[J];ext;rw[RJ ok (Uc b m) hw];ext;cases hy:(yl b (it b m)).testBit w with
 |true =>
  ext;rw[RL (qs:=[pN w,tX b w (it b m)]) (by ext) (λa=>QmD a _ _)];ext;delta tX Ui;rw[hy];rfl
 |false =>
  ext;rw[Ud ok];ext;rw[G8 (vS b w) (pL b 0) λc hc=>⟨_,rfl,by
   ext;rw[RJ ok (QiD.mp hc).1 hw];ext;rfl⟩]
  have t:∀kk:Bool,QZ kk [0,0,1] [Slot.fz b.enc,.fz (pN w),.fz (tX b w (it b m)),.un,.un,.un]=[Slot.fz b.enc,.fz (pN w),.fz (tX b w (it b m)),.un,.un,.un]:=λkk=>by cases kk<;>rfl
  rw[gK,t];ext;rw[Xt (vS b w) (λc=>(yl b c).testBit w) (vS b w) (pL b 0) λc hc=>⟨_,rfl,by
   ext;rw[lG],λ_=>by ext⟩]
  obtain⟨s3,u,B⟩:∃s3 ,s3.val=Z (.lst ((pL b 0).map (vS b w)))/\QZ ((((pL b 0).filter λc=>(yl b c).testBit w).map (vS b w)).all flat) [3] [Slot.fz b.enc,.fz (pN w),.fz (tX b w (it b m)),.ow ((pL b 0).map (vS b w)),.un,.un]=[Slot.fz b.enc,.fz (pN w),.fz (tX b w (it b m)),s3,.un,.un]:=by
   cases (((pL b 0).filter λc=>(yl b c).testBit w).map (vS b w)).all flat with
   |true=>exact⟨_,rfl,rfl⟩
   |false=>exact⟨_,rfl,rfl⟩
  rw[gK,B];ext;rw[u];ext;rw[Xt (vS b w) (λc => !(yl b c).testBit w) pN (pL b 0) λc hc=>⟨_,rfl,by ext,λ_=>by ext⟩];rw[show((pL b 0).filter λc => !(yl b c).testBit w).map pN=oO (se b w) from rfl,show((pL b 0).filter λc=>(yl b c).testBit w)=pU b w from rfl];ext;rw[lG,FF];cases E:(se b w).isEmpty with
  |true =>
   ext;rw[RL (qs:=[pN w,.tup ((pU b w).map (vS b w))]) (by ext) (λa=>Md a _ _)];ext;rfl
  |false =>
   ext;rw[lG,FG];cases l:(pU b w).isEmpty with
   |true =>
    ext;rw[RL (qs:=[pN w]) (by ext) (λa=>FA a _)];ext;rfl
   |false =>
    obtain⟨c,cs,H⟩:∃c cs,pU b w=c::cs:=by
     cases h:pU b w with
     |nil=>rw[h]at l;cases l
     |cons c cs=>exact⟨c,cs,rfl⟩
    obtain⟨d,ds,L⟩:∃d ds,se b w=d::ds:=by
     cases h:se b w with
     |nil=>rw[h]at E;cases E
     |cons c cs=>exact⟨c,cs,rfl⟩
    have hc:(yl b c).testBit w=Y:=by
     have:c∈pU b w:=by rw[H];simp
     delta pU at this;exact(aK.mp this).2
    rw[H,L];ext;rw[RL (qs:=[pN w,pN c,tX b w c,pN d]) (by ext) (λa=>FC a _ _ _ _)];ext;delta tX Uj;rw[hc];rfl
abbrev tT(C:Nat->Addr):Prop:=([C 1,C 2,C 3,C 4]:List Addr).Nodup
def FH{C:Nat->Addr}(h:tT C):(C 1==C 2)=U/\(C 1==C 3)=U/\(C 1==C 4)=U/\(C 2==C 1)=U/\(C 2==C 3)=U/\(C 2==C 4)=U/\(C 3==C 1)=U/\(C 3==C 2)=U/\(C 3==C 4)=U/\(C 4==C 1)=U/\(C 4==C 2)=U/\(C 4==C 3)=U:=by
 delta tT at h;simp only[bL,ap,d6,iw,not_or,List.nodup_nil,and_true,not_false_eq_true]at h;obtain⟨⟨a,b,c⟩,⟨d,e⟩,f⟩:=h;simp only[bc];exact⟨a,b,c,Ne.symm a,d,e,Ne.symm b,Ne.symm d,f,Ne.symm c,Ne.symm e,Ne.symm f⟩
def sL(l:List Addr)(f:Str)(m:pI)(B:oN):yp l f m B=(m B).bind (J3 l f):=rfl
def FI(C:Nat->Addr){D:Addr}(l:D∈[C 1,C 2,C 3,C 4]){ks:List Str}{ps:List PV}{s:PV}{f:Str}(B:((ks.zip ps).lookup f)=Z s):J3 [C 1,C 2,C 3,C 4] f (.obj D ks ps)=Z s:=by
 show(if ([C 1,C 2,C 3,C 4]:List Addr).contains D=Y then (ks.zip ps).lookup f else O)=_;rw[aw (by simpa using l),B]
def rh(s:Str):Prop:=s.length<=20/\aA s=Y
def pJ(ss:List Str)(k:Nat):Str:=ss.getD k ""
def rH{ss:List Str}{k:Nat}(h:k<ss.length):(ss.map PV.str)[k]?=Z (.str (pJ ss k)):=by simp[pJ,h]
noncomputable def Qt{ss:List Str}{k:Nat}(h:k<ss.length):pJ ss k∈ss:=by simp[pJ,h]
def sU(ss:List Str)(row:List Nat):Str:=aL " " (row.map (pJ ss))
def pY(ss:List Str)(m:Nat):Str:=("{":Str)++sU ss (qG m)++("}":Str)
def XS{m n:Nat}(h:m<2^n):∀k∈qG m,k<n:=λk j=>nX λq=>by
 have z:=XA.mp j;rw[iL (aF h (dG (by decide) q))]at z;cases z
def AU{m n:Nat}(h:m<2^n):((ai n).filter λk=>m.testBit k)=qG m:=by
 refine Km (eS _ fq) (QkS m) λk=>?_;rw[aK,XA,aR];exact⟨λz=>z.2,λz=>⟨XS h k (XA.mpr z),z⟩⟩
def W1{m n:Nat}(h:m<2^n):(qG m).length<=n:=by
 rw[<-AU h];have:=bf (λk=>m.testBit k) (ai n)
 rwa [ao]at this
def Qlf{ss:List Str}{row:List Nat}(l:∀s∈ss,rh s)(hr:∀k∈row,k<ss.length):((row.map (pJ ss)).map cE).sum<=row.length*20:=by
 have:=Xg (row.map (pJ ss)) 20 λs hs=>by
  obtain⟨k,j,rfl⟩:=aO.mp hs;exact(l _ (Qt (hr k j))).1
 rwa [ag]at this
def W2{ss:List Str}{row:List Nat}(l:∀s∈ss,rh s)(hr:∀k∈row,k<ss.length):(sU ss row).length<=row.length*21:=by
 delta sU;rw[Qv];have:=Qlf l hr;simp only[ag,show(" ":Str).length=1 from rfl]at *;lia
def Xy{ss:List Str}{m:Nat}(B:ss.length<=30)(l:∀s∈ss,rh s)(hm:m<2^ss.length):(pY ss m).length<=700:=by
 delta pY;have h1:=W2 l (XS hm);have h2:=W1 hm;rw[Qm,Qm,show("{":Str).length=1 from rfl,show("}":Str).length=1 from rfl];lia
def AV{ss:List Str}{m:Nat}(l:∀s∈ss,rh s)(hm:m<2^ss.length):aA (pY ss m)=Y:=by
 delta pY sU;refine Nb (Nb (by decide+kernel) (Rf _ (by decide+kernel) _ λs hs=>?_)) (by decide+kernel);obtain⟨k,j,rfl⟩:=aO.mp hs;exact(l _ (Qt (XS hm k j))).2
local macro_rules|`(tactic| walk_at "ev")=>`(tactic| try simp (disch:=fail"e") only[Hg,sG,tS,uZ,tR,uv,rF,rG,rH,qS,vk])
def XC{ss:List Str}{m:Nat}(B:ss.length<=30)(l:∀s∈ss,rh s)(hm:m<2^ss.length):QC [.tup (ss.map .str),pN m]=Z (.str (pY ss m)):=by
 have t:=W1 hm;unfold QC;ext;rw[WU (show ss.length<=60 by lia) hm];ext;rw[G8 (λk=>PV.str (pJ ss k)) (qG m) λk j=>⟨_,rfl,by have:=XS hm k j;ext⟩];rw[show(qG m).map (λ(k:Nat)=>PV.str (pJ ss k))=((qG m).map (pJ ss)).map PV.str by rw[aB];rfl];have h1:=W2 l (XS hm);have h2:=Qm ("{":Str) (sU ss (qG m));have h3:("{":Str).length=1:=rfl;have u:("}":Str).length=1:=rfl;have D:=Qlf l (XS hm);ext;rw[L2.PM.pJoin_s (by
  simp only[ag,show(" ":Str).length=1 from rfl]at *;exact Ya (by lia))]
 unfold pY sU at *;ext
def we(ss:List Str)(x:Nat×Nat):Str:=pY ss x.1++(" ":Str)++pY ss x.2
def Uk(x:Nat×Nat):PV := .tup [pN x.1,pN x.2]
local macro_rules|`(tactic| walk_at "ev")=>`(tactic| try simp (disch:=fail"e") only[Hg,sG,tS,uZ,tR,uv,rF,rG,sL,Fp,AE,vk])
def Qls{ss:List Str}{c zy:Nat}(l:ss.length<=30)(B:∀s∈ss,rh s)(h1:c<2^ss.length)(h2:zy<2^ss.length):Yr [.tup (ss.map .str),pN c,pN zy]=Z (.str (we ss (c,zy))):=by
 have a:=Xy l B h1;have b:=Xy l B h2;have l1:=Qm (pY ss c) " ";have l2:(" ":Str).length=1:=rfl;delta Yr;ext;rw[XC l B h1];ext;rw[XC l B h2];ext;rfl
def AW(s:Str):Prop:=∀c∈s.cps.toList,c<128
def Nl{s:Str}(h:AW s):aA s=Y:=by
 delta aA;rw[hQ];intro c hc;have:=h c (by simpa using hc);simp;lia
def Qno(h:AW s):(s.cps.all (· < 128))=Y:=by
 rw[hQ];intro c hc;have:=h c (by simpa using hc);simp;omega
def RN(s:Str):Bool:=s.cps.toList.all λc=>decide (97<=c)&&decide (c<=122)
def Me(s:Str):Bool := !no3.any (·==s)&&(decide (1<=s.length)&&(decide (s.length<=12)&&RN s))
def FJ{s:Str}(h:AW s):qK (.str s) (.tup [.str "guess",.str "unless",.str "if"])=Z (.bl (no3.any (·==s))):=by
 show qK (.str s) (.tup (no3.map .str))=_;rw[Na (Nl h) ok3]
def FK(c:Nat):rN "a" ⟨#[c]⟩=decide (97<=c):=by
 delta rN;rw[show("a":Str).cps.toList=[97] by decide+kernel];show(!decide ([c]<[97]))=_;rw[hJ,iy];by_cases h:97<=c
 .simp[h]<;>lia
 .simp[h]<;>lia
def FL(c:Nat):rN ⟨#[c]⟩ "z"=decide (c<=122):=by
 delta rN;rw[show("z":Str).cps.toList=[122] by decide+kernel];show(!decide ([122]<[c]))=_;rw[hJ,iy];by_cases h:c<=122
 .simp[h]<;>lia
 .simp[h]<;>lia
def FM(h:AW s):SV (.str s)=Z (BK s):=aw (Qno h)
local macro_rules|`(tactic| walk_at "ev")=>`(tactic| try simp (disch:=fail"e") only[si,tQ,uX,pT,vk])
def QhQ{s:Str}(h:AW s)(l:s.length<=9000):Zd [.str s]=Z (.bl (Me s)):=by
 delta Zd Me;ext;rw[FJ h];ext;cases t:no3.any (·==s) with
 |true=>ext;try rfl
 |false =>
  ext;by_cases h1:1<=s.length
  .rw[a8 h1];ext;by_cases h2:s.length<=12
   .rw[a8 h2];ext;rw[FM h];ext;delta BK;rw[Qk (λc:Nat=>PV.str ⟨#[c]⟩) (λc=>PV.bl (decide (97<=c)&&decide (c<=122))) _ λc hc=>⟨_,rfl,by
     ext;rw[FK];by_cases j:97<=c
     .rw[a8 j];ext;rw[FL];try rfl
     .rw[a5 j];ext;try rfl⟩]
    rw[show(s.cps.toList.map λc=>PV.bl (decide (97<=c)&&decide (c<=122)))=(s.cps.toList.map λc=>decide (97<=c)&&decide (c<=122)).map PV.bl by rw[aB];rfl];ext;rw[TW,eR];rfl
   .rw[a5 h2];ext
    try rfl
  .rw[a5 h1];ext
   try rfl
def tU(ws:List Str):Prop:=∀s∈ws,AW s/\s.length<=9000
def QmS{ws:List Str}(l:tU ws):YX (oY 0) Qw (Qb Zd (Qa (nP 0) oK)) [.un] (ws.map .str)=Z ((ws.map Me).map .bl):=by
 rw[Qk PV.str (λs=>PV.bl (Me s)) _ λs hs=>⟨_,rfl,by
  obtain⟨j,t⟩:=l s hs;ext;rw[QhQ j t]⟩]
 rw[aB];rfl
def W3(l:L.length<=9000):Yz (.str L) [.str " "]=Z ((eU L sp).map .str):=by
 show(if ((" ").length==0)=U/\L.length+2<=qy then Z ((eU L " ").map PV.str) else O)=_;rw[aw ⟨rfl,Ya (by lia)⟩];rfl
abbrev sM(R:List Rw):List Gp:=R.filterMap Rw.gp
abbrev vq(R:List Rw):List Rp:=R.filterMap Rw.rp
abbrev oZ(R:List Rw):List Str:=nm (sM R) (vq R)
def oV(R:List Rw):Bk:=⟨(oZ R).length,(rg (sM R)).map λp=>(oZ R).idxOf p.2,(qM (GN (sM R)) (vq R)).map λp=>⟨(oZ R).idxOf p.1,p.2.map (oZ R).idxOf⟩⟩
def W4(R:List Rw):LN (oZ R).idxOf (oZ R).length (rg (sM R)) (qM (GN (sM R)) (vq R))=(oV R).enc:=by
 delta LN oV Bk.enc;simp only[aB];rfl
def AX{l:List Gp}{rs:List Rp}{w:Str}(h:w∈nm l rs):w∈Nh l rs:=by
 delta nm at h;rcases aS.mp h with h | h
 .have h:=(Qj _).mem_iff.mp h;obtain⟨p,j,rfl⟩:=aO.mp h;exact Ni.mpr (.inl ⟨p,j,.inl rfl⟩)
 .have h:=(Qj _).mem_iff.mp h;exact Ng.mp (aK.mp h).1
def Ul{R:List Rw}{M:List Str}(G:Gd R M):(oZ R).Nodup:=by
 refine dL.mpr ⟨(Qj _).nodup_iff.mpr G.gnd,(Qj _).nodup_iff.mpr ((Rt _).filter _),λa j b l e=>?_⟩;subst e;have h1:=(Qj _).mem_iff.mp j;have h2:=(aK.mp ((Qj _).mem_iff.mp l)).2;exact bD h2 h1
def RO{R:List Rw}{M:List Str}(G:Gd R M){w:Str}(h:w∈oZ R):w∈M:=by
 obtain⟨x,j,hw⟩:=iF.mp (WH.mpr (AX h));exact G.ws x j w hw
def YE{R:List Rw}{M:List Str}(G:Gd R M):(oZ R).length<=30:=aY (TZ (Ul G) λx j=>RO G j) G.nM
def RP(l:List Gp):(rg l).length=l.length:=(Xq l).length_eq
def Mf{l:List Gp}{rs:List Rp}{w:Str}:(nm l rs).idxOf w<l.length↔w∈GN l:=by
 have j:(QA (GN l)).length=l.length:=by rw[(Qj _).length_eq];delta GN;rw[ag]
 delta nm;rw[List.idxOf_append,<-j];by_cases h:w∈QA (GN l)
 .rw[aw h];exact⟨λ_=>(Qj _).mem_iff.mp h,λ_=>bH.mpr h⟩
 .rw[aN h];exact⟨λz=>by lia,λz=>absurd ((Qj _).mem_iff.mpr z) h⟩
def FN{N G:List Str}(B:N.Pairwise (sF G)):∀{l:List Str},l.Pairwise (sF G)->l.Nodup->(∀w∈l,w∈N)->(l.map N.idxOf).Pairwise (· < ·):=by
 intro l;induction l with
 |nil =>
  intro _ _ _;exact .nil
 |cons x l u =>
  intro h t hm;rw[aT];refine .cons (λj D=>?_) (u (b0.mp h).2 (bL.mp t).2 λw hw=>hm w (by simp[hw]));obtain⟨y,hy,rfl⟩:=aO.mp D;have h1:=Am B (hm x (by simp)) (hm y (by simp[hy])) ((b0.mp h).1 y hy);refine Nat.lt_of_le_of_ne h1 λe=>?_;have e1:N[N.idxOf x]'(bH.mpr (hm x (by simp)))=x:=ft _;have e2:N[N.idxOf y]'(bH.mpr (hm y (by simp[hy])))=y:=ft _;have:x=y:=by rw[<-e1,<-e2];simp only[e]
  subst this;exact(bL.mp t).1 hy
def Hm{R:List Rw}{M:List Str}(G:Gd R M){p:Rp}(l:p∈vq R):Wd p.1/\(∀s∈p.2,Wd s)/\p.2.Nodup/\p.2.length<=6:=G.rb l
def Yb{R:List Rw}{M:List Str}(G:Gd R M):(oV R).Ok:=by
 have t:=YE G;refine⟨?_,?_,?_,?_,?_,?_,?_⟩
 .show((rg (sM R)).map _).length<=8;rw[ag,RP];exact aY G.ng (by decide)
 .show((rg (sM R)).map _).length<=(oZ R).length;rw[ag,RP];show _<=(QA (GN (sM R))++_).length;rw[a0,(Qj _).length_eq];delta GN;rw[ag];lia
 .show(oZ R).length<=60;lia
 .show((qM _ _).map _).length<=48;delta qM;rw[ag,ag];exact aY G.nr (by decide)
 .intro x l;obtain⟨p,j,rfl⟩:=aO.mp l;exact bH.mpr (Ao ((Xq _).mem_iff.mp j)).2
 .intro r hr;obtain⟨p,j,rfl⟩:=aO.mp hr;obtain⟨q,hq,rfl⟩:=aO.mp j;refine⟨?_,bH.mpr (Rv hq).1⟩;show((rg (sM R)).map _).length<=(oZ R).idxOf q.1;rw[ag,RP];exact nY λz=>G.hd q hq (Mf.mp z)
 .intro r hr;obtain⟨p,j,rfl⟩:=aO.mp hr;obtain⟨q,hq,rfl⟩:=aO.mp j;have hm:∀w∈sT (GN (sM R)) q.2,w∈oZ R:=λw hw=>(Rv hq).2 w ((YQ _ _).mem_iff.mp hw);refine⟨FN (Al _ _) (Qiw _ _) ((YQ _ _).nodup_iff.mpr (Hm G hq).2.2.1) hm,λx l=>?_⟩;obtain⟨w,hw,rfl⟩:=aO.mp l;exact bH.mpr (hm w hw)
def Rw.Ok.wd{x:Rw}(h:x.Ok):∀w∈x.ws,Wd w:=by
 cases x with
 |g a b=>intro w hw;simp[Rw.ws]at hw;exact hw.elim (λe=>e▸h.1) λe=>e▸h.2
 |r j b=>intro w hw;simp[Rw.ws]at hw;exact hw.elim (λe=>e▸h.1) λe=>h.2.1 _ e
def RQ{R:List Rw}{M:List Str}(G:Gd R M):∀w∈oZ R,Wd w:=λw h=>by
 obtain⟨x,j,hw⟩:=iF.mp (WH.mpr (AX h));exact(G.ok x j).wd w hw
def Xl(x:Str)(ps:List Str):Bool :=
 if (x=="why")=Y then (ps.length==1||(decide (2<ps.length)&&(ps.getD 1 ""=="by"))) else if (x=="lot")=Y then ps.length==1 else if (["ranks","book"]:List Str).any (·==x)=Y then ps.length==0 else (["flaw","camps"]:List Str).any (·==x)
def QK(x:Str)(ps:List Str):List Str:=if (["lot","why"]:List Str).any (·==x)=Y then ps.take 1 else []
def QB(x:Str)(ps:List Str):List Str:=if (x=="why")=Y then ps.drop 2 else if (["flaw","camps"]:List Str).any (·==x)=Y then ps else []
def Mg{s:Str}(h:AW s):qK (.str s) (.tup [.str "ranks",.str "book"])=Z (.bl ((["ranks","book"]:List Str).any (·==s))):=Na (ss:=["ranks","book"]) (Nl h) (by decide+kernel)
def W5{s:Str}(h:AW s):qK (.str s) (.tup [.str "flaw",.str "camps"])=Z (.bl ((["flaw","camps"]:List Str).any (·==s))):=Na (ss:=["flaw","camps"]) (Nl h) (by decide+kernel)
def AY{s:Str}(h:AW s):qK (.str s) (.tup [.str "lot",.str "why"])=Z (.bl ((["lot","why"]:List Str).any (·==s))):=Na (ss:=["lot","why"]) (Nl h) (by decide+kernel)
def FP{a b:Str}(l:AW a)(B:aA b=Y):pC (.str a) (.str b)=Z (.bl (a==b)):=Xo (Nl l) B
def W6:aA ("why":Str)=Y:=by decide+kernel
def AZ:aA ("lot":Str)=Y:=by decide+kernel
def RS:aA ("by":Str)=Y:=by decide+kernel
def FQ:aA ("flaw":Str)=Y:=by decide+kernel
def A0:aA ("ranks":Str)=Y:=by decide+kernel
def A1:aA ("camps":Str)=Y:=by decide+kernel
local macro_rules|`(tactic| walk_at "ev")=>`(tactic| try simp (disch:=fail"e") only[uo])
def QjJ{x:Str}{ps:List Str}(B:tU (x::ps))(D:ps.length<=900):TC [.lst (.str x::ps.map .str)]=Z (.bl (Xl x ps)):=by
 have j:=(B x (by simp)).1;delta TC Xl;ext;rw[mZ,FP j W6];cases h1:x=="why" with
 |true =>
  ext;cases h2:ps.length==1 with
  |true=>ext;try rfl
  |false =>
   ext;by_cases h3:2<ps.length
   .rw[a8 h3];ext;match ps,h3,B with
    |a::b::l,_,B =>
     ext;rw[FP (B b (by simp)).1 RS];rfl
   .rw[a5 h3];ext
    try rfl
 |false =>
  ext;rw[FP j AZ];cases h2:x=="lot" with
  |true=>ext;try rfl
  |false =>
   ext;rw[Mg j];cases h3:(["ranks","book"]:List Str).any (·==x) with
   |true=>ext;try rfl
   |false =>
    ext;rw[W5 j];rfl
def QiK{x:Str}{ps:List Str}(l:tU (x::ps))(B:ps.length<=900):ZM [.lst (.str x::ps.map .str)]=Z (.lst ((QK x ps).map .str)):=by
 have j:=(l x (by simp)).1;delta ZM QK;ext;rw[AY j];cases h1:(["lot","why"]:List Str).any (·==x) with
 |true =>
  ext;rw[E1];cases ps<;>rfl
 |false =>
  ext;rfl
def W7{x:Str}{ps:List Str}(l:tU (x::ps))(B:ps.length<=900):QL [.lst (.str x::ps.map .str)]=Z (.lst ((QB x ps).map .str)):=by
 have j:=(l x (by simp)).1;delta QL QB;ext;rw[FP j W6];cases h1:x=="why" with
 |true =>
  ext;rw[Xi,kS];rfl
 |false =>
  ext;rw[W5 j];cases h2:(["flaw","camps"]:List Str).any (·==x) with
  |true =>
   ext;rw[Xi];rfl
  |false =>
   ext;rfl
def Nm(x:Str)(ps:List Str):Bool:=Xl x ps&&(ps.map Me).all id
local macro_rules|`(tactic| walk_at "ev")=>`(tactic| try simp (disch:=fail"e") only[qV,tp,uo])
def Qfc{x:Str}{ps:List Str}(l:tU (x::ps))(B:ps.length<=900)(hf:Nm x ps=Y):YI [.lst (.str x::ps.map .str)]=Z .non:=by
 delta Nm at hf;rw[aQ]at hf;delta YI;ext;rw[QjJ l B,hf.1];ext;rw[Xi,show List.drop 1 (PV.str x::ps.map PV.str)=ps.map PV.str from rfl,qB (by rw[ag];lia),QmS (λs hs=>l s (by simp[hs]))];ext;rw[TW,hf.2];rfl
def W8(N:List Str)(x:Str)(ps:List Str):Bool:=(QK x ps++QB x ps).all λw=>N.any (·==w)
def W9(N:List Str)(g:Nat)(x:Str)(ps:List Str):Bool:=(QB x ps).all λw=>decide (N.idxOf w<g)
def Qju{x:Str}{ps:List Str}{w:Str}(h:w∈QK x ps):w∈ps:=by
 delta QK at h;split at h
 .exact gI h
 .cases h
def Qjv{x:Str}{ps:List Str}{w:Str}(h:w∈QB x ps):w∈ps:=by
 delta QB at h;split at h
 .exact eN h
 .split at h
  .exact h
  .cases h
def QdS(x:Str)(ps:List Str):(QK x ps).length<=ps.length:=by
 delta QK;split
 .rw[cS];lia
 .simp
def QdT(x:Str)(ps:List Str):(QB x ps).length<=ps.length:=by
 delta QB;split
 .rw[da];lia
 .split
  .lia
  .simp
def QdO{b:Bk}{N:List Str}(ok:b.Ok)(L:∀w∈N,aA w=Y){x:Str}{ps:List Str}(B:tU (x::ps))(D:ps.length<=900)(I:W8 N x ps=Y)(M:W9 N b.banes.length x ps=Y) :
  Ym [.tup (N.map .str),b.enc,.lst (.str x::ps.map .str)]=Z .non:=by
 have hm:∀w∈QK x ps++QB x ps,AW w/\w.length<=9000:=λw hw=>B w (ay _ ((aS.mp hw).elim Qju Qjv));have l1:=QdS x ps;have l2:=QdT x ps;have zy:(QK x ps++QB x ps).length<=1900:=by rw[a0];lia
 delta Ym;ext;rw[QiK B D,W7 B D];ext;rw[<-bw];generalize j:PV.lst (PV.str x::ps.map PV.str)=pv;obtain⟨E,e1,s9,rfl⟩:=Pw (g:=oY 3) (b:=Xb) PV.str (λ(u:Unit) _=>u) (λ_ l=>∃s9,l=[.fz (.tup (N.map .str)),.fz b.enc,.fz pv,s9]) (QK x ps++QB x ps) () [.fz (.tup (N.map .str)),.fz b.enc,.fz pv,.un] ⟨_,rfl⟩ (λ_ l w hw ⟨s9,e⟩=>by
  subst e;have H:=hm w hw;refine⟨_,[.fz (.tup (N.map .str)),.fz b.enc,.fz pv,.fz (.str w)],rfl,?_,_,rfl⟩;delta Xb;ext;rw[Wi (Nl H.1) L,aX.mp I w hw];ext
  try rfl)
 rw[e1];ext;subst j;rw[W7 B D];ext;generalize j:PV.lst (PV.str x::ps.map PV.str)=pv;obtain⟨J,e2,s8,rfl⟩:=Pw (g:=oY 3) (b:=Xa) PV.str (λ(u:Unit) _=>u) (λ_ l=>∃s9,l=[.fz (.tup (N.map .str)),.fz b.enc,.fz pv,s9]) (QB x ps) () [.fz (.tup (N.map .str)),.fz b.enc,.fz pv,s9] ⟨_,rfl⟩ (λ_ l w hw ⟨s9,e⟩=>by
  subst e;refine⟨_,[.fz (.tup (N.map .str)),.fz b.enc,.fz pv,.fz (.str w)],rfl,?_,_,rfl⟩;delta Xa;have t:w∈N:=by
   have:=aX.mp I w (bx _ hw);obtain⟨y,hy,e⟩:=dg.mp this;exact a9.mp e▸hy
  ext;rw[Yi t,qj];ext;rw[a5 (by have:=bD (aX.mp M w hw);lia)];ext
  try rfl)
 rw[e2];rfl
def vT(l:List (Addr×(List PV->Option PV)))(f:Str)(m:pI)(D:oN->Option (List PV))(B:oN):VJ l f m D B=(m B).bind λq=>(yq l f q).bind λg=>(D B).bind λps=>g (q::ps):=rfl
def Um{l:List (Addr×(List PV->Option PV))}{f:Str}{D:Addr}{ks:List Str}{ps:List PV}{g:List PV->Option PV}(B:ks.contains f=U)(I:l.lookup D=Z g):yq l f (.obj D ks ps)=Z g:=by
 show(if ks.contains f=U then l.lookup D else O)=_;rw[aw B,I]
local macro_rules|`(tactic| walk_at "ev")=>`(tactic| try simp (disch:=fail"e") only[rF,rG,rH,sL,vk])
def Qji(C:Nat->Addr){ss:List Str}{w zy:Nat}(l:ss.length<=30)(B:∀s∈ss,rh s)(D:zy<2^ss.length):Zk C [Ui C w zy,.tup (ss.map .str)]=Z (.lst [.str (("settled ":Str)++pY ss zy)]):=by
 have a:=Xy l B D;have u:("settled ":Str).length=8:=rfl;have j:("settled":Str).length=7:=rfl;have t:(" ":Str).length=1:=rfl;have l1:=Qm "settled" " ";delta Zk Ui;ext;rw[FI C (by simp) (s := .str "settled") rfl];ext;rw[FI C (by simp) (s:=pN zy) rfl];ext;rw[XC l B D];ext;rw[show("settled":Str)++(" ":Str)=("settled ":Str) by decide+kernel]
def A2(C:Nat->Addr){ss:List Str}{w:Nat}:YV C [W0 C w,.tup (ss.map .str)]=Z (.lst [.str "never"]):=by
 delta YV W0;ext;rw[FI C (by simp) (s := .str "never") rfl];ext
def A3(C:Nat->Addr){ss:List Str}{w c zy d:Nat}(l:ss.length<=30)(B:∀s∈ss,rh s)(hc:c<2^ss.length)(D:zy<2^ss.length)(hd:d<2^ss.length):ZP C [Uj C w c zy d,.tup (ss.map .str)]=Z (.lst [.str "maybe",.str (we ss (c,zy)),.str (pY ss d)]):=by
 delta ZP Uj;ext;rw[FI C (by simp) (s := .str "maybe") rfl];ext;rw[FI C (by simp) (s:=pN c) rfl];ext;rw[FI C (by simp) (s:=pN zy) rfl];ext;rw[Qls l B hc D];ext;rw[FI C (by simp) (s:=pN d) rfl];ext;rw[XC l B hd];ext
def FR(C:Nat->Addr){ss:List Str}{w:Nat}{ps:List (Nat×Nat)}(B:ss.length<=30)(D:∀s∈ss,rh s)(l:∀x∈ps,x.1<2^ss.length/\x.2<2^ss.length)(I:ps.length<=256):Yu C [AR C w (ps.map Uk),.tup (ss.map .str)]=Z (.lst ((("sure":Str)::ps.map (we ss)).map .str)):=by
 delta Yu AR;ext;rw[FI C (by simp) (s := .str "sure") rfl];ext;rw[FI C (by simp) (s := .tup (ps.map Uk)) rfl];ext;rw[Qk Uk (λx=>PV.str (we ss x)) ps λx j=>⟨_,rfl,by
  obtain⟨c,zy⟩:=x;ext;rw[Qls B D (l _ j).1 (l _ j).2]⟩]
 ext;rw[aB];rfl
def Mh{a c:Nat}(h:a<=c){m:Nat}(hm:m<2^a):m<2^c:=aF hm (dG (by decide) h)
def Uo{b:Bk}(ok:b.Ok){c w:Nat}(hc:c<2^b.banes.length)(hw:w<b.words)(hy:(yl b c).testBit w=Y):RU b c w<2^b.banes.length:=LZ hc (Uf ok hc hw hy).2.1
def ZG{b:Bk}{h c:Nat}(hc:c∈pL b h):c<2^b.banes.length:=aR.mp (aK.mp hc).1
def A4{b:Bk}(w:Nat):(pU b w).map (vS b w)=((pU b w).map λc=>(c,RU b c w)).map Uk:=by
 rw[aB];refine dX λc hc=>?_;have:=(aK.mp hc).2;show PV.tup [pN c,tX b w c]=_;delta tX;rw[aw this];rfl
def vU(C:Nat->Addr):List (Addr×(List PV->Option PV)):=[(C 1,(Zk C)),(C 2,(Yu C)),(C 3,(ZP C)),(C 4,(YV C))]
inductive u4 (b:Bk) (N:List Str) (m w:Nat):List Str->Prop
 |settled (h:(yl b (it b m)).testBit w=Y):u4 b N m w [("settled ":Str)++pY N (RU b (it b m) w)]
 |sure (h:(yl b (it b m)).testBit w=U) (h2:se b w=[]):u4 b N m w (("sure":Str)::(pU b w).map λc=>we N (c,RU b c w))
 |never (h:(yl b (it b m)).testBit w=U) (h2:se b w≠[]) (h3:pU b w=[]):u4 b N m w ["never"]
 |maybe {c d:Nat} (h:(yl b (it b m)).testBit w=U) (h2:c∈pU b w) (h3:d∈se b w):u4 b N m w ["maybe",we N (c,RU b c w),pY N d]
def Mi(C:Nat->Addr)(I:tT C){b:Bk}{ss:List Str}(ok:b.Ok)(hw:b.words=ss.length)(l:ss.length<=30)(B:∀s∈ss,rh s){w m:Nat}(D:w<b.words) :
  ∃g rs,yq (vU C) "shown" (AS C b m w)=Z g/\g [AS C b m w,.tup (ss.map .str)]=Z (.lst (rs.map .str))/\u4 b ss m w rs:=by
 have q:=FH I;have t:b.banes.length<=ss.length:=hw▸ok.gw;have lt {k:Nat} (h:k<2^b.banes.length):k<2^ss.length:=Mh t h;delta AS;by_cases h1:(yl b (it b m)).testBit w=Y
 .rw[aw h1];exact⟨_,[_],Um (by decide+kernel) (by simp[vU]),Qji C l B (lt (Uo ok (Uc b m) D h1)),.settled h1⟩
 .rw[aN h1];have h1:=Bool.eq_false_iff.mpr h1;by_cases h2:(se b w).isEmpty=Y
  .rw[aw h2,A4];have E:∀x∈((pU b w).map λc=>(c,RU b c w)),x.1<2^ss.length/\x.2<2^ss.length:=λx u=>by
    obtain⟨c,hc,rfl⟩:=aO.mp u;have j:=aK.mp hc;exact⟨lt (ZG j.1),lt (Uo ok (ZG j.1) D j.2)⟩
   have H:((pU b w).map λc=>(c,RU b c w)).length<=256:=by
    rw[ag];exact aY (bf _ _) (XD ok 0)
   refine⟨_,_,Um (by decide+kernel) (by simp[vU,bC,q]),FR C l B E H,?_⟩;rw[aB];exact .sure h1 (n4.mp h2)
  .rw[aN h2];by_cases h3:(pU b w).isEmpty=Y
   .rw[aw h3];exact⟨_,[_],Um (by decide+kernel) (by simp[vU,bC,q]),A2 C,.never h1 (λz=>h2 (by rw[z];rfl)) (n4.mp h3)⟩
   .rw[aN h3];cases e1:pU b w with
    |nil=>rw[e1]at h3;exact absurd rfl h3
    |cons c cs =>
     cases e2:se b w with
     |nil=>rw[e2]at h2;exact absurd rfl h2
     |cons d ds =>
      have hc:c∈pU b w:=by rw[e1];simp
      have hd:d∈se b w:=by rw[e2];simp
      have j:=aK.mp hc;exact⟨_,[_,_,_],Um (by decide+kernel) (by simp[vU,bC,q]),A3 C l B (lt (ZG j.1)) (lt (Uo ok (ZG j.1) D j.2)) (lt (ZG (aK.mp hd).1)),.maybe h1 hc hd⟩
def XE{s:Str}(h:Wd s):aA s=Y:=BP h.low
def A5{s:Str}(h:Wd s):rh s:=⟨by have:=h.l2;lia,XE h⟩
def RT{N:List Str}{w:Str}(h:w∈N):N[N.idxOf w]?=Z w:=by
 rw[aG (bH.mpr h),ft]
def X0{x:Rw}(h:x.Ok):aA x.line=Y:=by
 have hs:aA sp=Y:=by decide+kernel
 cases x with
 |g a b =>
  exact Rf _ hs _ λs j=>by
   simp at j;rcases j with rfl | rfl | rfl | rfl
   .exact Xm
   .exact XE h.1
   .exact z0
   .exact XE h.2
 |r H b =>
  show aA (if b=[] then H else aL sp (H::"if"::b))=Y;by_cases l:b=[]
  .rw[aw l];exact XE h.1
  .rw[aN l];exact Rf _ hs _ λs j=>by
    simp at j;rcases j with rfl | rfl | j
    .exact XE h.1
    .exact z6
    .exact XE (h.2.1 _ j)
def Mj{R:List Rw}{M:List Str}(G:Gd R M){p:Rp}(l:p∈qM (GN (sM R)) (vq R)):(Rw.r p.1 p.2).Ok/\p.1∈oZ R/\∀w∈p.2,w∈oZ R:=by
 obtain⟨q,hq,rfl⟩:=aO.mp l;have h:=Hm G hq;have j:=YQ (GN (sM R)) q.2;exact⟨⟨h.1,λs hs=>h.2.1 s (j.mem_iff.mp hs),j.nodup_iff.mpr h.2.2.1,by rw[j.length_eq];exact h.2.2.2⟩,(Rv hq).1,λw hw=>(Rv hq).2 w (j.mem_iff.mp hw)⟩
noncomputable def wg{R:List Rw}{M:List Str}(G:Gd R M):∀s∈oZ R,rh s:=λs hs=>A5 (RQ G s hs)
local macro_rules|`(tactic| walk_at "ev")=>`(tactic| try simp (disch:=fail"e") only[qE,qj,qF,pK,rF,rG,rH,vk])
def tq(R:List Rw)(k:Nat):Str:=match (qM (GN (sM R)) (vq R))[k]? with
 |some p=>(Rw.r p.1 p.2).line
 |none=>""
def A6(R:List Rw):(oV R).rules.length=(qM (GN (sM R)) (vq R)).length:=ag _
def X1{R:List Rw}{M:List Str}(G:Gd R M){k:Nat}(h:k<(oV R).rules.length):∃v,((oV R).rules.map pR.enc)[k]?=Z v/\QQ [.tup ((oZ R).map .str),v]=Z (.str (tq R k))/\aA (tq R k)=Y:=by
 rw[A6]at h;obtain⟨h1,h2,h3⟩:=Mj G (bu h);delta tq;rw[aG h];refine⟨_,?_,Qlr h1 (RT h2) λw hw=>RT (h3 w hw),X0 h1⟩;show(((qM (GN (sM R)) (vq R)).map λp=>(⟨(oZ R).idxOf p.1,p.2.map (oZ R).idxOf⟩:pR)).map pR.enc)[k]?=_;rw[aB,aI,aG h];rfl
inductive A7 (R:List Rw) (held w:Nat):List Str->Prop
 |yes {K:List Nat} (h:(yl (oV R) held).testBit w=Y) (hK:vn (oV R) held w K):A7 R held w (("yes":Str)::K.map (tq R))
 |no (h:(yl (oV R) held).testBit w=U):A7 R held w ["no"]
def RV{R:List Rw}{M:List Str}(G:Gd R M)(held:Nat){w:Nat}(hw:w<=60):∃rs,TH [.tup ((oZ R).map .str),(oV R).enc,pN held,pN w]=Z (.lst (rs.map .str))/\A7 R held w rs:=by
 have ok:=Yb G;delta TH;ext;rcases RA ok held hw with⟨h,K,e,j⟩|⟨h,e⟩
 .rw[e];have t:=j.len;have hr:=ok.r40;ext;rw[G8 (λk=>PV.str (tq R k)) K λk l=>⟨_,rfl,by
   obtain⟨v,e1,e2,_⟩:=X1 G (j.lt k l);ext;rw[e1];ext;rw[e2]⟩]
  ext;exact⟨_,by simp[aB],.yes h j⟩
 .rw[e];ext;exact⟨["no"],rfl,.no h⟩
def FS{R:List Rw}{M:List Str}(G:Gd R M)(held:Nat):XI [.tup ((oZ R).map .str),(oV R).enc,pN held]=Z (.lst (((pL (oV R) held).map (pY (oZ R))).map .str)):=by
 have ok:=Yb G;have l:(oV R).banes.length<=(oZ R).length:=ok.gw;have j:=XD ok held;delta XI;ext;rw[Ud ok];ext;rw[G8 (λc=>PV.str (pY (oZ R) c)) (pL (oV R) held) λc hc=>⟨_,rfl,by
  ext;rw[XC (YE G) (wg G) (Mh l (ZG hc))]⟩]
 ext;rw[aB];rfl
def Nn(N:List Str)(t:Str)(g zy:Nat):Str:=aL " " [t,pJ N g,pY N zy]
def Qlm{R:List Rw}{M:List Str}(G:Gd R M){held g zy:Nat}{t:Str}(B:t.length<=10)(D:held<2^(oV R).banes.length)(h3:held.testBit g=Y)(I:zy<2^(oV R).banes.length)(e:Rg [(oV R).enc,pN held]=Z (.tup [.str t,pN g,pN zy])) :
  Yg [.tup ((oZ R).map .str),(oV R).enc,pN held]=Z (.lst [.str (Nn (oZ R) t g zy)]):=by
 have ok:=Yb G;have l:(oV R).banes.length<=(oZ R).length:=ok.gw;have u:g<(oZ R).length:=aF (Hk D h3) l;have j:=Mh l I;have l1:=Xy (YE G) (wg G) j;have l2:=(wg G _ (Qt u)).1;delta Yg;ext;rw[e];ext;rw[XC (YE G) (wg G) j];ext;rw[show [PV.str t,.str (pJ (oZ R) g),.str (pY (oZ R) zy)]=[t,pJ (oZ R) g,pY (oZ R) zy].map PV.str from rfl,pJoin_s (by simp;have:(" ":Str).length=1:=rfl;lia)];ext;rfl
inductive No (R:List Rw) (held:Nat):List Str->Prop
 |non (h:sJ (oV R) held=Y):No R held ["stands"]
 |torn {g zy:Nat} (h:sJ (oV R) held=U) (h2:(held&&&stk (oV R) held==0)=U) (h3:held.testBit g=Y) (h4:∀k,zy.testBit k=Y->held.testBit k=Y) (h5:rR (oV R) (bn (oV R) g) zy):No R held [Nn (oZ R) "torn" g zy]
 |bare {g zy:Nat} (h:sJ (oV R) held=U) (h2:(held&&&stk (oV R) held==0)=Y) (h3:held.testBit g=Y) (h4:∀k,zy.testBit k=Y->(wb (oV R) held).testBit k=Y) (h5:rR (oV R) (bn (oV R) g) zy):No R held [Nn (oZ R) "bare" g zy]
def FT{R:List Rw}{M:List Str}(G:Gd R M){held:Nat}(l:held<2^(oV R).banes.length):∃rs,Yg [.tup ((oZ R).map .str),(oV R).enc,pN held]=Z (.lst (rs.map .str))/\No R held rs:=by
 have ok:=Yb G;obtain⟨p,e,F⟩:=L4 ok l;cases F with
 |non h =>
  delta Yg;ext;rw[e];ext;exact⟨["stands"],rfl,.non h⟩
 |torn h1 h2 h3 j t=>exact⟨[_],Qlm G (by decide+kernel) l h3 (LZ l j) e,.torn h1 h2 h3 j t⟩
 |bare h1 h2 h3 j t=>exact⟨[_],Qlm G (by decide+kernel) l h3 (LZ (T8 _ _) j) e,.bare h1 h2 h3 j t⟩
def Ml:∀n:_root_.Fin 9,(((jj ((n:Nat):Int):String):Str).length<=2/\aA ((jj ((n:Nat):Int):String):Str)=Y):=by decide+kernel
def FU(p:PV):Str:=match p with
 |.int i=>(jj i:String)
 |_=>"-"
def Mm{s:Str}(hs:rh s){p:PV}(l:p = .non\/∃n,n<=8/\p=pN n):TJ [.str s,p]=Z (.str (s++" "++FU p)):=by
 have l1:(" ":Str).length=1:=rfl;have l2:("-":Str).length=1:=rfl;have j:=Qm s " ";have:=hs.1;delta TJ;rcases l with rfl|⟨n,t,rfl⟩
 .ext;rfl
 .have h9:((jj (n:Int):String):Str).length<=2:=(Ml ⟨n,by lia⟩).1;ext;rw[show vL [pN n]=Z (.str (jj (n:Int):String)) from aw (show((n:Int)).natAbs<1000000 by lia)];ext;rfl
def X2{b:Bk}{m g:Nat}(hm:m<=8):rz b (m+1) g = .non\/∃n,n<=8/\rz b (m+1) g=pN n:=by
 delta rz;cases h:(ai (m+1)).find? (λj=>(it b j).testBit g) with
 |none=>exact .inl rfl
 |some j =>
  have:=aR.mp (List.mem_of_find?_eq_some h);exact .inr ⟨j,by lia,rfl⟩
def QlD{α:Type}(f:Nat->α)(n:Nat):((ai n).map f).zipIdx=(ai n).map λg=>(f g,g):=by
 refine fM (by simp) λi h1 h2=>?_;simp
def FV{R:List Rw}{M:List Str}(G:Gd R M){m:Nat}(e:QS [(oV R).enc]=Z (.tup [pN (it (oV R) m),.tup ((ai (oV R).banes.length).map (rz (oV R) (m+1)))]))(hm:m<=8):XH [.tup ((oZ R).map .str),(oV R).enc]=Z (.lst (((ai (oV R).banes.length).map λg=>pJ (oZ R) g++" "++FU (rz (oV R) (m+1) g)).map .str)):=by
 have ok:=Yb G;have u:=ok.g8;have l:(oV R).banes.length<=(oZ R).length:=ok.gw;delta XH;ext;rw[e];ext;rw[QlD,aB,qB (by simp;lia),show((λx:PV×Nat=>PV.tup [pN x.2,x.1])∘λg=>(rz (oV R) (m+1) g,g))=(λg=>PV.tup [pN g,rz (oV R) (m+1) g]) from rfl,Qk (λg=>PV.tup [pN g,rz (oV R) (m+1) g]) (λg=>PV.str (pJ (oZ R) g++" "++FU (rz (oV R) (m+1) g))) (ai (oV R).banes.length) λg t=>⟨_,rfl,by
  have j:g<(oZ R).length:=aF (aR.mp t) l;ext;rw[Mm (wg G _ (Qt j)) (X2 hm)]⟩]
 ext;rw[aB];rfl
def A8{R:List Rw}{M:List Str}(G:Gd R M){p:Gp}(l:p∈rg (sM R)):(qQ p).Ok/\p.1∈oZ R/\p.2∈oZ R:=by
 have hq:=(Xq _).mem_iff.mp l;obtain⟨x,j,e⟩:=bR.mp hq;refine⟨?_,Ao hq⟩;cases x with
 |g a b=>cases e;exact G.ok _ j
 |r h b=>cases e
def Mn{l:List Gp}:QA (GN l)=GN (rg l):=by
 refine(M1 ((Xq l).map _) ?_).symm;have h:=Qid (l.map tr);rw[QkJ]at h;rw[fD]at h |-;exact h
def Mo{l:List Gp}{rs:List Rp}(i:Nat)(p:Gp)(h:(rg l)[i]?=Z p):(nm l rs)[i]?=Z p.1:=by
 have j:=(ax.mp h).1;delta nm;rw[Mn,cx (by delta GN;rw[ag];exact j)];delta GN;rw[aI,h];rfl
def BS(R:List Rw):List Rw:=Fg (rg (sM R)) (qM (GN (sM R)) (vq R))
def X3{R:List Rw}{M:List Str}(G:Gd R M):∀x∈BS R,x.Ok:=QiT (λp j=>(A8 G j).1) λp j=>(Mj G j).1
def X4{R:List Rw}{M:List Str}(G:Gd R M):(BS R).length<=48:=by
 have h1:(sM R).length<=8:=G.ng;have h2:(vq R).length<=40:=G.nr;delta BS Fg qM;rw[a0,ag,ag,ag,RP];show(sM R).length+(vq R).length<=48;lia
def Ho{R:List Rw}{M:List Str}(G:Gd R M):Zf [.tup ((oZ R).map .str),(oV R).enc]=Z (.str (aL nl ((BS R).map Rw.line))):=by
 rw[<-W4];exact Fh (λp j=>(A8 G j).1) (λp j=>(Mj G j).1) (by rw[RP];exact aY G.ng (by decide)) (by delta qM;rw[ag];exact G.nr) Mo (λp j=>RT (A8 G j).2.2) (λp j=>RT (Mj G j).2.1) λp j w hw=>RT ((Mj G j).2.2 w hw)
def QmW{R:List Rw}{M:List Str}(G:Gd R M):ZE [.str (aL nl ((BS R).map Rw.line))]=Z (.lst ((BS R).map λx=>.str x.line)):=WI (X3 G) (by have:=X4 G;lia)
def Uq{n:Nat}:∀{xs:List Nat},(∀x∈xs,x<n)->Qy xs<2^n:=by
 intro xs h;refine kE _ λi l=>?_;cases j:(Qy xs).testBit i with
 |false=>rfl
 |true =>
  rw[QG]at j;have:=h i (bD j);lia
def QlB{N:List Str}{w:Str}(h:N.any (·==w)=Y):w∈N:=by
 obtain⟨y,hy,e⟩:=dg.mp h;exact a9.mp e▸hy
local macro_rules|`(tactic| walk_at "ev")=>`(tactic| try simp (disch:=fail"e") only[qE,qj,qF,pK,rF,rG,qV,tp,vT,sL,uo])
def QiH{N ws:List Str}{t:PV}{s1:Slot}(h:∀w∈ws,w∈N):YX (oY 0) Qw (rQ ZF (nP 1) (Qa (nP 0) oK)) [s1,.fz (.tup (N.map .str))] (ws.map .str)=Z (oO (ws.map N.idxOf)):=by
 rw[Qk PV.str (λw=>pN (N.idxOf w)) ws λw hw=>⟨_,rfl,by
  ext;rw[Yi (h w hw)]⟩]
 delta oO;rw[aB];rfl
def QlE{x:Str}{ps:List Str}(h:Xl x ps=Y)(B:(["lot","why"]:List Str).any (·==x)=Y):∃a,QK x ps=[a]:=by
 have j:0<ps.length:=by
  delta Xl at h;by_cases h1:(x=="why")=Y
  .rw[aw h1]at h;rcases (dQ _ _).mp h with h | h
   .have:=a9.mp h;omega
   .have:=bD (aQ _ _ |>.mp h).1;omega
  .rw[aN h1]at h;by_cases h2:(x=="lot")=Y
   .rw[aw h2]at h;have:=a9.mp h;omega
   .exfalso;obtain⟨y,hy,e⟩:=dg.mp B;have e:=a9.mp e;simp at hy;rcases hy with rfl | rfl
    .exact h2 (by rw[<-e];simp)
    .exact h1 (by rw[<-e];simp)
 delta QK;rw[aw B];match ps,j with
 |a::l,_=>exact⟨a,rfl⟩
inductive va (R:List Rw) (held w:Nat):Str->List Str->Prop
 |lot {m:Nat} {rs:List Str} (e:QS [(oV R).enc]=Z (.tup [pN (it (oV R) m),.tup ((ai (oV R).banes.length).map (rz (oV R) (m+1)))])) (h:u4 (oV R) (oZ R) m w rs):va R held w "lot" rs
 |why {rs:List Str} (h:A7 R held w rs):va R held w "why" rs
 |flaw {rs:List Str} (h:No R held rs):va R held w "flaw" rs
 |ranks {m:Nat} (hm:m<=8) (e:QS [(oV R).enc]=Z (.tup [pN (it (oV R) m),.tup ((ai (oV R).banes.length).map (rz (oV R) (m+1)))])):va R held w "ranks" ((ai (oV R).banes.length).map λg=>pJ (oZ R) g++" "++FU (rz (oV R) (m+1) g))
 |camps:va R held w "camps" ((pL (oV R) held).map (pY (oZ R)))
 |book:va R held w "book" ((BS R).map Rw.line)
def A9(C:Nat->Addr)(h4:tT C){R:List Rw}{M:List Str}(G:Gd R M){x:Str}{ps:List Str}(I:tU (x::ps))(zx:ps.length<=900)(hf:Nm x ps=Y)(hn:W8 (oZ R) x ps=Y)(hg:W9 (oZ R) (oV R).banes.length x ps=Y) :
  ∃rs,TR C [.tup ((oZ R).map .str),(oV R).enc,.lst (.str x::ps.map .str)]=Z (.lst (rs.map .str))/\va R (Qy ((QB x ps).map (oZ R).idxOf)) ((oZ R).idxOf ((QK x ps).headD "")) x rs:=by
 have B:=(I x (by simp)).1;have ok:=Yb G;have H:=YE G;have l1:=QdS x ps;have l2:=QdT x ps;have l:∀w∈QK x ps++QB x ps,w∈oZ R:=λw hw=>QlB (aX.mp hn w hw);have D:∀k∈(QB x ps).map (oZ R).idxOf,k<(oV R).banes.length:=λk J=>by
  obtain⟨w,hw,rfl⟩:=aO.mp J;exact bD (aX.mp hg w hw)
 have h8:=ok.g8;have hm:=Uq D;unfold Nm at hf;rw[aQ]at hf;have j:=hf.1;unfold TR;ext;rw[QiK I zx];ext;rw[QiH (t := .non) λw hw=>l w (c9 _ hw)];ext;rw[W7 I zx];ext;rw[QiH (t := .non) λw hw=>l w (bx _ hw)];ext;rw[WJ λk J=>by have:=D k J;omega];ext;generalize av:Qy ((QB x ps).map (oZ R).idxOf)=held at *;obtain⟨m,L,u,E⟩:=QfO ok;have one:(["lot","why"]:List Str).any (·==x)=Y->∃a,QK x ps=[a]/\(oZ R).idxOf a<(oZ R).length:=λc=>by
  obtain⟨a,e1⟩:=QlE j c;exact⟨a,e1,bH.mpr (l a (by rw[e1];simp))⟩
 rw[FP B AZ];cases T:x=="lot" with
 |true =>
  obtain rfl:=a9.mp T;obtain⟨a,e1,hw⟩:=one (by decide+kernel);rw[e1];ext;rw[RM C ok hw u];obtain⟨g,rs,k1,k2,k3⟩:=Mi C h4 ok rfl H (wg G) (m:=m) hw;unfold vU at k1;ext;rw[k1];ext;rw[k2];exact⟨rs,rfl,.lot L k3⟩
 |false =>
  ext;rw[FP B W6];cases zw:x=="why" with
  |true =>
   obtain rfl:=a9.mp zw;obtain⟨a,e1,hw⟩:=one (by decide+kernel);rw[e1];ext;obtain⟨rs,k1,k2⟩:=RV G held (w:=(oZ R).idxOf a) (by omega);rw[k1];exact⟨rs,rfl,.why k2⟩
  |false =>
   ext;rw[FP B FQ];cases zy:x=="flaw" with
   |true =>
    obtain rfl:=a9.mp zy;ext;obtain⟨rs,k1,k2⟩:=FT G hm;rw[k1];exact⟨rs,rfl,.flaw k2⟩
   |false =>
    ext;rw[FP B A0];cases c4:x=="ranks" with
    |true =>
     obtain rfl:=a9.mp c4;ext;rw[FV G L E];exact⟨_,rfl,.ranks E L⟩
    |false =>
     ext;rw[FP B A1];cases c5:x=="camps" with
     |true =>
      obtain rfl:=a9.mp c5;ext;rw[FS G];exact⟨_,rfl,.camps⟩
     |false =>
      have hb:x = "book":=by
       unfold Xl at j;rw[T,zw]at j;simp at j zy c4 c5;grind
      subst hb;ext;rw[Ho G];ext;rw[QmW G];exact⟨(BS R).map Rw.line,by rw[aB];rfl,.book⟩
abbrev wh(R:List Rw):PV := .lst (R.map λx=>.str x.line)
abbrev vV(R:List Rw):PV := .tup ((oZ R).map .str)
def pM(C:Nat->Addr)(R:List Rw):PV := .obj (C 5) ["lines","names","book"] [wh R,vV R,(oV R).enc]
def Mp{l:Type}(m:MX l)(a:Addr)(p:PV)(t:l):qA 3 2 m a [p] t=(m [.fz (.opq a),.fz p,.un] t).bind yj:=rfl
def Mq{R:List Rw}{M:List Str}(G:Gd R M):Zg [wh R]=Z (.tup [vV R,(oV R).enc]):=by
 rw[Qlu G];delta Ry;rw[<-W4]
local macro_rules|`(tactic| walk_at "ev")=>`(tactic| try simp (disch:=fail"e") only[pK,vp,uo])
def Mr{R:List Rw}{M:List Str}(G:Gd R M)(a:Addr):XJ a [wh R] ⟨[],[],O⟩=Z ⟨["lines","names","book"],[wh R,vV R,(oV R).enc],O⟩:=by
 delta XJ;rw[Mp];have e1:oW [1] 2 (Qb Zg (Qa (nP 1) oK)) [.fz (.opq a),.fz (wh R),.un]=Z (.nx [.fz (.opq a),.fz (wh R),.fz (.tup [vV R,(oV R).enc])]):=by
  ext;rw[Mq G];ext
  try rfl
 rw[Nk (Fy e1 rfl)];rw[Nk (WZ (r:=wh R) (t':=⟨["lines"],[wh R],O⟩) rfl rfl)];rw[Nk (WZ (r:=vV R) (t':=⟨["lines","names"],[wh R,vV R],O⟩) rfl rfl)];rw[WZ (r:=(oV R).enc) (t':=⟨["lines","names","book"],[wh R,vV R,(oV R).enc],O⟩) rfl rfl];rfl
def FW{R:List Rw}{M:List Str}(G:Gd R M)(a:Addr):Zl a [.str (aL nl (R.map Rw.line))] ⟨[],[],O⟩=Z ⟨["lines","names","book"],[wh R,vV R,(oV R).enc],O⟩:=by
 delta Zl;have e1:Qa (Qb ZE (Qa (nP 1) oK)) oK [.fz (.opq a),.fz (.str (aL nl (R.map Rw.line)))]=Z [wh R]:=by
  ext;rw[WI G.ok (by have:=G.len;lia)];ext
  try rfl
 rw[AQ,Fz e1 rfl rfl (Mr G a)];rfl
def QiJ(C:Nat->Addr)(R:List Rw):vH (C 5) "names" (pM C R)=Z (vV R)/\vH (C 5) "book" (pM C R)=Z (oV R).enc:=by
 constructor
 .show(if C 5=C 5 then _ else O)=_;rw[aw rfl];rfl
 .show(if C 5=C 5 then _ else O)=_;rw[aw rfl];rfl
def vW(x y:Str):M9 (.str x) [.str y]=Z (.bl (gH x y)):=rfl
def X5(C:Nat->Addr)(R:List Rw):vH (C 5) "names" (pM C R)=Z (vV R):=(QiJ C R).1
def X6(C:Nat->Addr)(R:List Rw):vH (C 5) "book" (pM C R)=Z (oV R).enc:=(QiJ C R).2
local macro_rules|`(tactic| walk_at "ev")=>`(tactic| try simp (disch:=fail"e") only[pK,vp,vW,X5,X6,vm,uo])
def RW(C:Nat->Addr)(zy:tT C){R:List Rw}{M:List Str}(G:Gd R M){L x:Str}{ps:List Str}(hs:eU L sp=x::ps)(l:tU (x::ps))(B:ps.length<=900)(zx:L.length<=900)(t1:gH L "tell "=U)(T:gH L "drop "=U)(hf:Nm x ps=Y)(D:W8 (oZ R) x ps=Y)(I:W9 (oZ R) (oV R).banes.length x ps=Y) :
  ∃rs,Yc C [pM C R,.str L]=Z (.lst (rs.map .str))/\va R (Qy ((QB x ps).map (oZ R).idxOf)) ((oZ R).idxOf ((QK x ps).headD "")) x rs:=by
 have j:Yz (.str L) [.str " "]=Z (.str x::ps.map .str):=by rw[W3 (by lia),hs];rfl
 have t:∀w∈oZ R,aA w=Y:=λw hw=>XE (RQ G w hw);obtain⟨rs,e,h⟩:=A9 C zy G l B hf D I;refine⟨rs,?_,h⟩;delta Yc;ext;rw[t1];ext;rw[T];ext;rw[j];ext;rw[Qfc l B hf];ext;rw[QdO (Yb G) t l B D I];ext;rw[e];rfl
end DH
namespace DH
open PySem PySem.Spec PyProof.Rows L2 L2.PM
open Builtin.Str StrLaws
local macro_rules|`(tactic| fail"e")=>`(tactic| first|assumption|omega|(simp only[pT,pF,List.length_map,List.length_range,List.length_cons,List.length_nil,List.length_append];omega)|decide)
local macro_rules|`(tactic| walk_at "ev")=>`(tactic| try simp (disch:=fail"e") only[uo])
def Ba(c:Int){n:Nat}(B:n<=1000):∃ds:List Nat,Zh [.int c,pN n]=Z (.lst (oO ds))/\ds.length=n:=by
 delta Zh;ext;generalize ((c%((2147483629:Nat):Int)).toNat+1)*1103515245%2147483647=l;obtain⟨u,e,number,ds,s4,rfl,h1⟩:=Wt (g:=oY 4) (b:=XR) (λj t=>∃(number:Nat)(ds:List Nat)(s4:Slot),t=[.fz (.int c),.fz (pN n),.fz (pN number),.ow (oO ds),s4]/\ds.length=j)
  n [.fz (.int c),.fz (pN n),.fz (pN l),.ow (oO []),.un] ⟨l,[],.un,rfl,rfl⟩ (by
   rintro j t D ⟨number,ds,s4,rfl,h1⟩;refine⟨_,_,rfl,?_,number*48271%2147483647,ds++[number*48271%2147483647/13],.fz (pN j),rfl,by simp[h1]⟩;delta XR;ext;rw[Zj (by rw[pF];lia) rfl];ext;simp[oO])
 rw[show([]:List PV)=oO [] from rfl,e];ext;exact⟨ds,rfl,h1⟩
def FX{ds:List Nat}{n:Nat}(h:ds.length=n){i:Nat}(l:i<n):(oO ds)[i]?=Z (pN (ds.getD i 0)):=by
 rw[sD,aG (by lia),d8,aG (by lia)];rfl
def Dr(E:List PV)(n:Nat):Prop:=E.length=n/\∀i,i<n->∃d:Nat,E[i]?=Z (pN d)
def RX{ds:List Nat}{n:Nat}(h:ds.length=n):Dr (oO ds) n:=⟨by rw[pF,h],λi j=>⟨_,FX h j⟩⟩
def Ms(c:Int){n:Nat}(l:n<=1000):∃E,Zh [.int c,pN n]=Z (.lst E)/\Dr E n:=by
 obtain⟨ds,e,h⟩:=Ba c l;exact⟨_,e,RX h⟩
def ZI(x:Str):x.cps.toList.length=x.length:=by simp[cE]
def QmC{a:Nat} u n (h:n<=a):dY (Z a) u 1 n=dY (Z n) u 1 n:=by
 delta dY;grind
def Mt x {a:Nat} (h:a<=x.length):(cw x O (Z a)).cps.toList=x.cps.toList.take a:=by
 rw[Rq x (b9 _) h O _ (LK _ _),gs,Nat.sub_zero]
def RY(x:Str)(a:Nat):(cw x (Z (a:Int)) O).cps.toList=x.cps.toList.drop a:=by
 have j:=ZI x;by_cases h:a<=x.length
 .rw[Rq x (a:=a) (b:=x.length) h (au _) _ O (z7 _ _),di (by rw[da];lia)]
 .rw[Rq x (a:=x.length) (b:=x.length) (au _) (au _) _ O ((QmC O x.length (cb (nX h))).trans (z7 _ _)),Nat.sub_self,List.take_zero,fu (by lia)]
def Qfy(z:Str)(lo l:Option Int){c:Nat}(h:c∈(cw z lo l).cps.toList):c∈z.cps.toList:=by
 delta cw at h;split at h
 .exact h
 .have h:c∈List.filterMap (λi=>z.cps[i]?) (dY lo l 1 z.length):=h;obtain⟨i,_,l⟩:=bR.mp h;obtain⟨t,rfl⟩:=cM.mp l;exact Array.getElem_mem_toList t
def FY{x w:Str}(l:tP x)(hw:tP w)(B:w.length=1){a:Nat}(D:a<x.length):tP (cw x O (Z (a:Int))++w++cw x (Z ((a+1:Nat):Int)) O)/\(cw x O (Z (a:Int))++w++cw x (Z ((a+1:Nat):Int)) O).length=x.length:=by
 have e1:=Mt x (cb D);have e2:=RY x (a+1);refine⟨Wq (Wq (λc hc=>l c (Qfy _ _ _ hc)) hw) λc hc=>l c (Qfy _ _ _ hc),?_⟩;rw[Qm,Qm,B,<-ZI,<-ZI (cw x (Z _) O),e1,e2,cS,da,ZI];lia
def FZ(h:i<6):∃v ,(oO [1,3,5,7,9,11])[i]?=Z (pN v):=by
 rw[sD,aG (by simpa using h)];exact⟨_,rfl⟩
def F0:List Str:=["by","lot","why","tell","drop","book","ranks","camps","flaw","stands","yes","no"]
def Bb(s:Str):Bool:=s.cps.toList.all λc=>decide (97<=c)&&decide (c<=122)
def F7{s:Str}(h:Bb s=Y):tP s:=λc hc=>by
 have:=aX.mp h c hc;rw[aQ]at this;exact⟨bD this.1,bD this.2⟩
def Bc:∀s∈F0,Bb s=Y/\1<=s.length/\s.length<=11:=by decide+kernel
def RZ:∀s∈no3,Bb (s++"a")=Y/\1<=(s++"a").length/\(s++"a").length<=12/\(s++"a")∉no3:=by decide+kernel
def Lw(s:Str):Prop:=1<=s.length/\s.length<=12/\tP s
end DH
namespace DH
open PySem PySem.Spec PyProof.Rows L2 L2.PM
local macro_rules|`(tactic| fail"e")=>`(tactic| first|assumption|omega|(simp only[pT,pF,List.length_map,List.length_range,List.length_cons,List.length_nil,List.length_append];omega)|decide)
local macro_rules|`(tactic| walk_at "ev")=>`(tactic| try simp (disch:=fail"e") only[uo])
def Be{s:Str}(h:Lw s)(l:s∉no3):Wd s:=⟨h.1,h.2.1,h.2.2,l⟩
def X7:pW:=ph (oQ (oJ Zq (nP 9) (nP 7))) (qo [9] 7 (nP 9)) pr
def X8:pW:=(oM (ph (oQ (oJ qK (nP 9) (pV (Qa (mC (.str "guess")) (Qa (mC (.str "unless")) (Qa (mC (.str "if")) oK)))))) (oW [9] 9 (oJ o7 (nP 9) (mC (.str "a")))) pr) X7)
def Mu{p0 p1 p2 p4 p5 p6 p8:PV}{s3 s10:Slot}{names:List Str}{s:Str}(h:Lw s)(hd:names.Nodup)(hw:∀s∈names,Wd s)(zy:names.length<=100) :
  ∃(l:List Str)(s':Slot),X8 [.fz p0,.fz p1,.fz p2,s3,.fz p4,.fz p5,.fz p6,.ow (names.map .str),.fz p8,.fz (.str s),s10]=Z (.nx [.fz p0,.fz p1,.fz p2,s3,.fz p4,.fz p5,.fz p6,.ow (l.map .str),.fz p8,s',s10])/\l.Nodup/\(∀s∈l,Wd s)/\l.length<=names.length+1/\1<=l.length:=by
 have D:("a":Str).length=1:=rfl;have E:=h.2.1;have key:∀t:Str,Wd t->∃(l:List Str)(s':Slot),X7 [.fz p0,.fz p1,.fz p2,s3,.fz p4,.fz p5,.fz p6,.ow (names.map .str),.fz p8,.fz (.str t),s10]=Z (.nx [.fz p0,.fz p1,.fz p2,s3,.fz p4,.fz p5,.fz p6,.ow (l.map .str),.fz p8,s',s10])/\l.Nodup/\(∀s∈l,Wd s)/\l.length<=names.length+1/\1<=l.length:=λt u=>by
  delta X7;ext;rw[Wh (XE u) λs hs=>XE (hw s hs)];cases hc:names.any (·==t) with
  |true =>
   ext;refine⟨names,_,rfl,hd,hw,by lia,?_⟩;have:=QlB hc;cases names with
   |nil=>cases this
   |cons _ _=>simp
  |false =>
   ext;rw[Zj (by rw[ag];lia) rfl];refine⟨names++[t],.fz (.str t),by rw[bw];rfl,?_,?_,by simp,by simp⟩
   .refine dL.mpr ⟨hd,by simp,λa B b H e=>?_⟩;subst e;rw[am.mp H]at B;have:names.any (·==t)=Y:=dg.mpr ⟨t,B,by simp⟩;rw[hc]at this;cases this
   .intro s hs;rcases aS.mp hs with z | z
    .exact hw s z
    .rw[am.mp z];exact u
 delta X8;ext;rw[Ha h.2.2];by_cases j:s∈no3
 .have e1:no3.any (·==s)=Y:=dg.mpr ⟨s,j,by simp⟩;obtain⟨I,J,L,M⟩:=RZ s j;rw[e1];ext;exact key (s++"a") ⟨J,L,F7 I,M⟩
 .rw[zZ j];ext;exact key s (Be h j)
abbrev nmA:pW:=(oW [4,8,4,8] 9 (Qb ZH (Qa (oJ oU (nP 4) (oJ o7 (mN 3) (nP 8))) (Qa (oJ o7 (mN 1) (oJ pz (oJ sP (oJ oU (nP 4) (oJ o7 (mN 4) (nP 8))) (mN 5)) (mN 4))) oK))))
abbrev nmB:pW:=(ph (oQ (oJ BG (oJ pz (oJ oU (nP 4) (mN 20)) (mN 4)) (mN 2))) (oM (oW [2,4,8,4] 10 (oJ oU (nP 2) (oJ pz (oJ o7 (oJ oU (nP 4) (mN 21)) (oJ rJ (nP 8) (oJ oU (o6 (pD (Qa (mN 1) (Qa (mN 3) (Qa (mN 5) (Qa (mN 7) (Qa (mN 9) (Qa (mN 11) oK)))))))) (oJ pz (oJ oU (nP 4) (mN 22)) (mN 6))))) (mN 26))))
 (oW [5,6,10,5,6] 9 (oJ o7 (oJ o7 (rL wa (nP 5) sj (rA (nP 6))) (nP 10)) (rL wa (nP 5) (rA (oJ o7 (nP 6) (mN 1))) sj)))) pr)
abbrev nmC:pW:=(ph (oQ (oJ pC (oJ pz (oJ oU (nP 4) (mN 20)) (mN 4)) (mN 2))) (oW [3,4,8] 9 (oJ oU (nP 3) (oJ pz (oJ o7 (oJ oU (nP 4) (mN 23)) (oJ rJ (mN 5) (nP 8))) (mN 12)))) pr)
def F8:Xc=oM nmA (oM nmB (oM nmC X8)):=rfl
def Bf{i:Nat}(h:i<12):∃v,(F0.map PV.str)[i]?=Z (.str v)/\Lw v:=by
 have l:i<F0.length:=h;refine⟨F0[i],by rw[aI,aG l];rfl,?_⟩;have:=Bc _ (bu l);exact⟨this.2.1,by lia,F7 this.1⟩
def Bg{a b:pW}{B l:oN}(h:a B=Z (.nx l)):oM a b B=b l:=by
 show(a B).bind _=_;rw[h];rfl
section
abbrev F9(p0 p1:PV)(E:List PV)(base:Str)(at' k:Nat)(names:List PV)(s9 s10:Slot):oN:=[.fz p0,.fz p1,.fz (.str "abcdefghijklmnopqrstuvwxyz"),.ow (F0.map .str),.fz (.lst E),.fz (.str base),.fz (pN at'),.ow names,.fz (pN k),s9,s10]
def Mv(hE:Dr E 26)(I:k<9):∃f,nmA (F9 p0 p1 E base at' k names s9 s10)=Z (.nx (F9 p0 p1 E base at' k names (.fz (.str f)) s10))/\Lw f:=by
 obtain⟨t,u⟩:=hE.2 (3+k) (by lia);obtain⟨j,B⟩:=hE.2 (4+k) (by lia);have hm:j/5%4<4:=bU _ (by decide);obtain⟨f,D,fl,l⟩:=Qlv t (size:=1+j/5%4) (by lia);delta F9;ext;rw[u];ext;rw[B];ext;rw[D];ext;exact⟨f,rfl,by lia,by lia,l⟩
def Mw(hE:Dr E 26)(hk:k<9)(B:Lw base)(T:at'<base.length){f:Str}(hf:Lw f):∃M t,nmB (F9 p0 p1 E base at' k names (.fz (.str f)) s10)=Z (.nx (F9 p0 p1 E base at' k names (.fz (.str M)) t))/\Lw M:=by
 obtain⟨u,D⟩:=hE.2 20 (by decide);obtain⟨j,H⟩:=hE.2 21 (by decide);obtain⟨I,J⟩:=hE.2 22 (by decide);obtain⟨v,zw⟩:=FZ (i:=I%6) (bU _ (by decide));have l:(j+k*v)%26<26:=bU _ (by decide);have L:=B.2.1;delta F9;ext;rw[D];ext;by_cases hc:u%4<2
 .rw[a8 hc];ext;rw[H];ext;rw[J];ext;rw[show [pN 1,pN 3,pN 5,pN 7,pN 9,pN 11]=oO [1,3,5,7,9,11] from rfl,zw];ext;rw[Qit l];have zy:=Wu (97+(j+k*v)%26);obtain⟨q1,zx⟩:=FY B.2.2 (Ro l) zy T;generalize (⟨#[97+(j+k*v)%26]⟩:Str)=w at *;have l1:=Qfz base O (Z (at':Int));have l2:=Qfz base (Z ((at'+1:Nat):Int)) O;have l3:=Qm (cw base O (Z (at':Int))) w;ext;refine⟨_,_,rfl,?_⟩;exact⟨by rw[zx];exact B.1,by rw[zx];exact L,q1⟩
 .rw[a5 hc];ext;exact⟨f,_,rfl,hf⟩
def Mx(hE:Dr E 26){f:Str}(hf:Lw f):∃B,nmC (F9 p0 p1 E base at' k names (.fz (.str f)) s10)=Z (.nx (F9 p0 p1 E base at' k names (.fz (.str B)) s10))/\Lw B:=by
 obtain⟨j,l⟩:=hE.2 20 (by decide);obtain⟨t,u⟩:=hE.2 23 (by decide);delta F9;ext;rw[l];ext;cases hc:j%4==2 with
 |true =>
  ext;rw[u];ext;obtain⟨v,e,h⟩:=Bf (i:=(t+5*k)%12) (bU _ (by decide));rw[e];ext;exact⟨v,rfl,h⟩
 |false =>
  ext;exact⟨f,rfl,hf⟩
end
def Bh(c:Int){size:Nat}(h1:1<=size)(h9:size<=9):∃names:List Str,Yp [.int c,pN size]=Z (.lst (names.map .str))/\names.Nodup/\(∀s∈names,Wd s)/\names.length<=9/\1<=names.length:=by
 obtain⟨E,L,hE⟩:=Ms c (n:=26) (by decide);obtain⟨M,zx⟩:=hE.2 0 (by decide);obtain⟨B,T⟩:=hE.2 1 (by decide);obtain⟨D,zw⟩:=hE.2 2 (by decide);have hm:B%12<12:=bU _ (by decide);obtain⟨base,zy,bl,t⟩:=Qlv M (size:=1+B%12) (by lia);have H:Lw base:=⟨by lia,by lia,t⟩
 have av:=H.2.1;have ha:D%base.length<base.length:=bU _ (by lia);delta Yp;ext;rw[L];ext;rw[zx];ext;rw[T];ext;rw[zy];ext;rw[zw];ext;generalize D%base.length=at' at *;obtain⟨az,e,names,s8,s9,s10,rfl,k1,k2,k3,I⟩:=Wt (g:=oY 8) (b:=Xc) (λj J=>∃(names:List Str)(s8 s9 s10:Slot),J=[.fz (.int c),.fz (pN size),.fz (.str "abcdefghijklmnopqrstuvwxyz"),.ow (F0.map .str),.fz (.lst E),.fz (.str base),.fz (pN at'),.ow (names.map .str),s8,s9,s10]/\names.Nodup/\(∀s∈names,Wd s)/\names.length<=j/\(1<=j->1<=names.length))
  size [.fz (.int c),.fz (pN size),.fz (.str "abcdefghijklmnopqrstuvwxyz"),.ow (F0.map .str),.fz (.lst E),.fz (.str base),.fz (pN at'),.ow (([]:List Str).map .str),.un,.un,.un] ⟨[],.un,.un,.un,rfl,.nil,(λs h=>nomatch h),au _,λz=>by lia⟩ (by
   rintro j J hj ⟨names,s8,s9,s10,rfl,k1,k2,k3,I⟩;obtain⟨f1,e1,q1⟩:=Mv (p0 := .int c) (p1:=pN size) (base:=base) (at':=at') (k:=j) (names:=names.map .str) (s9:=s9) (s10:=s10) hE (by lia);obtain⟨f2,u,e2,q2⟩:=Mw (p0 := .int c) (p1:=pN size) (base:=base) (at':=at') (k:=j) (names:=names.map .str) (s10:=s10) hE (by lia) H ha q1;obtain⟨f3,e3,q3⟩:=Mx (p0 := .int c) (p1:=pN size) (base:=base) (at':=at') (k:=j) (names:=names.map .str) (s10:=u) hE q2;obtain⟨l,s',e4,r1,r2,r3,r4⟩:=Mu (p0 := .int c) (p1:=pN size) (p2 := .str "abcdefghijklmnopqrstuvwxyz") (p4 := .lst E) (p5 := .str base) (p6:=pN at') (p8:=pN j) (s3 := .ow (F0.map .str)) (s10:=u) q3 k1 k2 (by lia);refine⟨_,_,rfl,?_,l,.fz (pN j),s',u,rfl,r1,r2,by lia,λ_=>r4⟩;rw[F8];exact(Bg e1).trans ((Bg e2).trans ((Bg e3).trans e4)))
 rw[show([.str "by",.str "lot",.str "why",.str "tell",.str "drop",.str "book",.str "ranks",.str "camps",.str "flaw",.str "stands",.str "yes",.str "no"]:List PV)=F0.map .str from rfl,show([]:List PV)=([]:List Str).map .str from rfl,e];ext;exact⟨names,rfl,k1,k2,by lia,I h1⟩
def Rk(names o:List Str)(x:Rw):Prop:=∃h b,x=Rw.r h b/\h∈o/\(∀w∈b,w∈names)/\b.Nodup/\b.length<=3
def sN(xs:List PV)(s:Slot):Prop:=s = .ow xs\/s = .fz (.lst xs)
def My{names:List Str}{i:Nat}(h:i<names.length):(names.map PV.str)[i]?=Z (.str names[i]):=by rw[aI,aG h];rfl
def BU(E:List PV)(names:List Str)(g:Nat)(s3:Slot)(R:List Rw)(s5 s6 s7 s8 s9 s10:Slot):oN:=[.fz (.lst E),.fz (.lst (names.map .str)),.fz (pN g),s3,.ow (R.map Rw.v),s5,s6,s7,s8,s9,s10]
section
variable{E:List PV}{names o:List Str}{g k:Nat}{R:List Rw}{s3 s6 s7 s8 s9 s10:Slot}(hE:Dr E 60)(hn0:0<names.length)(h9:names.length<=9)(ho0:0<o.length)(ho9:o.length<=9)(h3:sN (o.map .str) s3)(hR:∀x∈R,Rk names o x)
include hE hn0 h9 ho0 ho9 h3 hR
theorem rl1(D:g<=names.length)(I:k<g)(L:R.length<=k) :
  ∃(l:List Rw)(B:Slot),ZY (BU E names g s3 R (.fz (pN k)) s6 s7 s8 s9 s10)=Z (.nx (BU E names g B l (.fz (pN k)) s6 s7 s8 s9 s10))/\sN (o.map .str) B/\(∀x∈l,Rk names o x)/\l.length<=k+1:=by
 obtain⟨d,j⟩:=hE.2 6 (by decide);have hm:k%o.length<o.length:=bU _ ho0;have t:(k+1)%g<names.length:=aF (bU _ (by lia)) D;delta ZY BU;rcases h3 with rfl | rfl <;>
 .ext;rw[j];ext;rw[T7 (b:=decide (k+1<g)) (by ext),bm,Hj (b:=d%4==2) (by ext;rw[j];ext;try rfl),bm];generalize (d%4==1&&decide (k+1<g)||d%4==2)=c;cases c with
  |false =>
   ext;exact⟨R,_,rfl,by first | exact .inl rfl | exact .inr rfl,hR,by lia⟩
  |true =>
   ext;rw[My hm];ext;rw[My t];ext;rw[Zj (by rw[ag];lia) rfl];refine⟨R++[Rw.r o[k%o.length] [names[(k+1)%g]]],_,by rw[bw];rfl,.inr rfl,λx u=>?_,by simp;lia⟩;rcases aS.mp u with z | z
   .exact hR x z
   .exact⟨_,_,am.mp z,bu hm,λw hw=>by rw[am.mp hw];exact bu t,by simp,by simp⟩
omit ho0 ho9 h3 hR in
theorem X9(hw:∀s∈names,Wd s){j:Nat}{b:List Str}(I:k<9)(L:j<4)(h1:∀w∈b,w∈names)(h2:b.Nodup)(M:b.length<=j){s4:Slot} :
  ∃(l:List Str)(B:Slot),ZX [.fz (.lst E),.fz (.lst (names.map .str)),.fz (pN g),s3,s4,.fz (pN k),.ow (b.map .str),.fz (pN j),s8,s9,s10]=Z (.nx [.fz (.lst E),.fz (.lst (names.map .str)),.fz (pN g),s3,s4,.fz (pN k),.ow (l.map .str),.fz (pN j),B,s9,s10])/\(∀w∈l,w∈names)/\l.Nodup/\l.length<=j+1:=by
 obtain⟨d,D⟩:=hE.2 (16+k+j*5) (by omega);have hd:d%names.length<names.length:=bU _ hn0;have hm:=bu hd;delta ZX;ext;rw[D];ext;rw[My hd];ext;rw[Wh (XE (hw _ hm)) λs hs=>XE (hw _ (h1 s hs))];cases c:b.any (·==names[d%names.length]) with
 |true =>
  ext;exact⟨b,_,rfl,h1,h2,by omega⟩
 |false =>
  ext;rw[Zj (by rw[ag];omega) rfl];have t:names[d%names.length]∉b:=λz=>by
   rw[eQ]at c;exact c _ z (by simp)
  refine⟨b++[names[d%names.length]],_,by rw[bw];rfl,λw u=>?_,dL.mpr ⟨h2,by simp,λa H c hc e=>?_⟩,by simp;omega⟩
  .rcases aS.mp u with z | z
   .exact h1 w z
   .rw[am.mp z];exact hm
  .rw[am.mp hc]at e;exact t (e▸H)
theorem rl3(hw:∀s∈names,Wd s){n:Nat}(hn:n<=12)(zx:k<9)(hl:R.length<=n) :
  ∃(D:List Rw)(L T l B:Slot),ZW (BU E names g s3 R (.fz (pN k)) s6 s7 s8 s9 s10)=Z (.nx (BU E names g L D (.fz (pN k)) T l B s9 s10))/\sN (o.map .str) L/\(∀x∈D,Rk names o x)/\D.length<=n+1:=by
 obtain⟨J,zw⟩:=hE.2 (8+k) (by lia);obtain⟨t,u⟩:=hE.2 (32+k) (by lia);have hm:t%o.length<o.length:=bU _ ho0;delta ZW BU;ext;rw[zw];have h4:J%4<4:=bU _ (by decide);ext;obtain⟨zy,ef,b,l,B,rfl,H,I,av⟩:=T6 (g:=oY 7) (b:=ZX) (λj M=>∃(b:List Str)(l B:Slot),M=[.fz (.lst E),.fz (.lst (names.map .str)),.fz (pN g),s3,.ow (R.map Rw.v),.fz (pN k),.ow (b.map .str),l,B,s9,s10]/\(∀w∈b,w∈names)/\b.Nodup/\b.length<=j) (J%4) [.fz (.lst E),.fz (.lst (names.map .str)),.fz (pN g),s3,.ow (R.map Rw.v),.fz (pN k),.ow [],s7,s8,s9,s10] ⟨[],_,_,rfl,by simp,by simp,by simp⟩ (λj M hj zz=>by
  obtain⟨b,l,B,e,h1,h2,h3⟩:=zz;subst e;obtain⟨b',az,e',q1,q2,q3⟩:=X9 hE hn0 h9 hw zx (show j<4 by lia) h1 h2 h3;exact⟨_,_,rfl,e',b',_,_,rfl,q1,q2,q3⟩)
 rw[ef];rcases h3 with rfl | rfl <;>
 .ext;rw[u];ext;rw[My hm];ext;rw[Zj (by rw[ag];lia) rfl];refine⟨R++[Rw.r o[t%o.length] b],_,_,_,_,by rw[bw];rfl,.inr rfl,λx hx=>?_,by simp;lia⟩;rcases aS.mp hx with z | z
  .exact hR x z
  .exact⟨_,_,am.mp z,bu hm,H,I,by lia⟩
end
theorem QkT:∀a b:List Str,pP (a.map PV.str) (b.map .str)=(a==b)
 |[],[]=>rfl
 |[],_::_=>rfl
 |_::_,[]=>rfl
 |x::a,y::b=>by
  rw[aT,aT,pP,zV,QkT a b];rfl
def Bi{a:List Str}(h:∀s∈a,aA s=Y):p9 (.lst (a.map .str))=Y:=by
 have j:=QiO h;simp[p9,pH,vd,j]
def Bj{a b:List Str}(l:∀s∈a,aA s=Y)(B:∀s∈b,aA s=Y):pC (.lst (a.map .str)) (.lst (b.map .str))=Z (.bl (a==b)):=by
 rw[Wa (Bi l) (Bi B)];show Z (PV.bl (pP _ _))=_;rw[QkT]
def Ga:Rw->Rw->Bool
 |.r h b,.r k c=>h==k&&QA b==QA c
 |_,_=>U
def Rk.ok{names o:List Str}{x:Rw}(h:Rk names o x)(hw:∀s∈names,Wd s)(hs:∀s∈o,s∈names):x.Ok:=by
 obtain⟨k,b,rfl,h1,h2,h3,j⟩:=h;exact⟨hw _ (hs _ h1),λs hs=>hw _ (h2 s hs),h3,by lia⟩
def Bl{x y:Rw}(h:x.sim y):y.sim x:=by
 cases x<;>cases y
 .exact Eq.symm h
 .cases h
 .cases h
 .exact⟨h.1.symm,h.2.symm⟩
def Hq{b:List Str}(h:∀s∈b,Wd s):∀s∈QA b,aA s=Y:=λs hs=>XE (h s ((Qj b).mem_iff.mp hs))
section
variable{E:List PV}{names o:List Str}{g k:Nat}{R K:List Rw}{s3 s5 s6 s7 s8 s9 s10:Slot}(hw:∀s∈names,Wd s)(ho:∀s∈o,s∈names)
include hw ho
theorem rl4{x:Rw}(B:Rk names o x)(D:∀x∈K,Rk names o x)(pw:K.Pairwise λx y=>¬x.sim y)(I:K.length<=100){s0 s1 s2 s4:Slot} :
  ∃l:List Rw,ZV [s0,s1,s2,s3,s4,s5,s6,s7,s8,.ow (K.map Rw.v),.fz x.v]=Z (.nx [s0,s1,s2,s3,s4,s5,s6,s7,s8,.ow (l.map Rw.v),.fz x.v])/\(∀x∈l,Rk names o x)/\(l.Pairwise λx y=>¬x.sim y)/\l.length<=K.length+1:=by
 delta ZV;ext;rw[Xt Rw.v (λy=>Ga y x) Rw.v K λy hy=>⟨_,rfl,by
  obtain⟨h,b,rfl,j,t,u,E⟩:=B;obtain⟨k,c,rfl,p1,p2,H,p4⟩:=D y hy;delta Rw.v;ext;rw[Xo (XE (hw _ (ho _ p1))) (XE (hw _ (ho _ j)))];ext;rw[T7 (b:=QA c==QA b) (by
   ext;rw[WF (by lia),WF (by lia)];ext;rw[Bj (Hq λs hs=>hw _ (p2 s hs)) (Hq λs hs=>hw _ (t s hs))];rfl)]
  rfl,λ_=>rfl⟩]
 have hf:=bf (λy=>Ga y x) K;ext;cases c:((K.filter λy=>Ga y x).length==0) with
 |false =>
  ext;exact⟨K,rfl,D,pw,by lia⟩
 |true =>
  ext;rw[Zj (by rw[ag];lia) (by simp),show flat x.v=U by cases x<;>rfl];refine⟨K++[x],by rw[bw];rfl,λy hy=>?_,eM.mpr ⟨pw,by simp,λy hy z hz s=>?_⟩,by simp⟩
  .rcases aS.mp hy with z | z
   .exact D y z
   .rw[am.mp z];exact B
  .rw[am.mp hz]at s;have e:=b4.mp (a9.mp c);rw[List.filter_eq_nil_iff]at e;refine e y hy ?_;cases y<;>cases x
   .obtain⟨_,_,z,_⟩:=B;cases z
   .cases s
   .cases s
   .simp[Ga,s.1,s.2]
end
def Bm{E:List PV}{names:List Str}{g:Nat}(hE:Dr E 60)(hn0:0<names.length)(h9:names.length<=9)(hw:∀s∈names,Wd s)(hg:g<=names.length)(aq:g<=4) :
  ∃K:List Rw,Yo [.lst E,.lst (names.map .str),pN g]=Z (K.map Rw.v)/\(∀x∈K,Rk names (names.drop g) x)/\(K.Pairwise λx y=>¬x.sim y)/\K.length<=12:=by
 obtain⟨d7,e7⟩:=hE.2 7 (by decide);have aj:d7%9<9:=bU _ (by decide);have ho:∀s∈names.drop g,s∈names:=λs hs=>eN hs;delta Yo QaJ;rw[Fu];ext;rw[Xi];have ho9:(names.drop g).length<=9:=by rw[da];lia
 generalize ak:names.drop g=o at *;by_cases h0:o.length=0
 .rw[show(o.length==0)=Y by simp[h0]];ext;exact⟨[],rfl,by simp,by simp,by simp⟩
 .have ho0:0<o.length:=by lia
  rw[show(o.length==0)=U by simp[h0]];ext;obtain⟨γ1,T,R1,t,l,rfl,a1,a2,a3⟩:=T6 (g:=oY 5) (b:=ZY) (λk j=>∃(R:List Rw)(t l:Slot),j=BU E names g t R l .un .un .un .un .un/\sN (o.map .str) t/\(∀x∈R,Rk names o x)/\R.length<=k) g [.fz (.lst E),.fz (.lst (names.map .str)),.fz (pN g),.ow (o.map .str),.ow [],.un,.un,.un,.un,.un,.un] ⟨[],_,_,rfl,.inl rfl,by simp,by simp⟩ (λk j hk D=>by
   obtain⟨R,t,l,e,H,I,zx⟩:=D;subst e;obtain⟨zw,u,J,L,M,zy⟩:=rl1 (s6 := .un) (s7 := .un) (s8 := .un) (s9 := .un) (s10 := .un) hE hn0 h9 ho0 ho9 H I hg hk zx;exact⟨_,_,rfl,J,zw,u,_,rfl,L,M,zy⟩)
  rw[T];delta BU;ext;rw[e7];ext;obtain⟨aJ,av,R2,u3,u5,u6,u7,u8,rfl,b1,b2,b3⟩:=T6 (g:=oY 5) (b:=ZW) (λk j=>∃(R:List Rw)(t l t6 t7 t8:Slot),j=BU E names g t R l t6 t7 t8 .un .un/\sN (o.map .str) t/\(∀x∈R,Rk names o x)/\R.length<=4+k) (d7%9) [.fz (.lst E),.fz (.lst (names.map .str)),.fz (pN g),t,.ow (R1.map Rw.v),l,.un,.un,.un,.un,.un] ⟨R1,_,_,_,_,_,rfl,a1,a2,by lia⟩ (λk j hk D=>by
   obtain⟨R,t,l,t6,t7,t8,e,H,I,zx⟩:=D;subst e;obtain⟨zw,u,aZ,bv,bz,J,L,M,zy⟩:=rl3 (g:=g) (k:=k) (s6:=t6) (s7:=t7) (s8:=t8) (s9 := .un) (s10 := .un) hE hn0 h9 ho0 ho9 H I hw (by lia) (by lia) zx;exact⟨_,_,rfl,J,zw,u,_,_,_,_,rfl,L,M,by lia⟩)
  rw[av];delta BU;ext;obtain⟨bq,az,K,B,rfl,c1,c2,c3⟩:=QW (g:=oY 10) (b:=ZV) Rw.v (λpre j=>∃(K:List Rw)(B:Slot),j=[.fz (.lst E),.fz (.lst (names.map .str)),.fz (pN g),u3,.fz (.lst (R2.map Rw.v)),u5,u6,u7,u8,.ow (K.map Rw.v),B]/\(∀x∈K,Rk names o x)/\(K.Pairwise λx y=>¬x.sim y)/\K.length<=pre.length) R2 R2 [] [.fz (.lst E),.fz (.lst (names.map .str)),.fz (pN g),u3,.fz (.lst (R2.map Rw.v)),u5,u6,u7,u8,.ow [],.un] rfl ⟨[],_,rfl,by simp,by simp,by simp⟩ (λpre x post j e D=>by
   obtain⟨K,B,e1,H,I,zx⟩:=D;subst e1;have hl:=congrArg dt e;simp at hl;obtain⟨K',J,L,M,zy⟩:=rl4 (x:=x) hw ho (b2 x (by rw[<-e];simp)) H I (by lia);exact⟨_,_,rfl,J,K',_,rfl,L,M,by simp;lia⟩)
  rw[az];ext;exact⟨K,rfl,c1,c2,by lia⟩
structure TI (names o:List Str) (k:Nat) (R:List Rw):Prop where
 ok:∀x∈R,Rk names o x\/∃a∈names.take k,∃b∈names,x=Rw.g a b
 pw:R.Pairwise λx y=>¬x.sim y
 len:R.length<=12+k
def TI.ins{names o:List Str}{k:Nat}{R:List Rw}(I:TI names o k R)(D:names.Nodup)(B:k<names.length){b:Str}(L:b∈names)(p:Nat):TI names o (k+1) (R.take p++Rw.g names[k] b::R.drop p):=by
 have l:(R.take p++Rw.g names[k] b::R.drop p).Perm (Rw.g names[k] b::R):=by
  refine List.perm_middle.trans (.cons _ ?_);rw[iX]
 have E:names[k]∉names.take k:=λz=>by
  have j:=D;rw[<-iX k names]at j;refine(dL.mp j).2.2 _ z _ ?_ rfl;rw[cy B];exact a7
 have e:names.take (k+1)=names.take k++[names[k]]:=by rw[List.take_add_one,aG B];rfl
 refine⟨λx H=>?_,?_,by have:=l.length_eq;have:=I.len;simp at *;lia⟩
 .rcases ap.mp (l.mem_iff.mp H) with rfl | z
  .exact .inr ⟨_,by rw[e];exact bx _ a7,b,L,rfl⟩
  .rcases I.ok x z with h|⟨a,t,c,hc,rfl⟩
   .exact .inl h
   .exact .inr ⟨a,by rw[e];exact c9 _ t,c,hc,rfl⟩
 .refine(l.pairwise_iff λ{x y}(u:¬x.sim y) z=>u (Bl z)).mpr (b0.mpr ⟨λy hy s=>?_,I.pw⟩);rcases I.ok y hy with⟨_,_,rfl,_⟩|⟨a,t,c,hc,rfl⟩
  .cases s
  .exact E ((show names[k]=a from s)▸t)
def TI.gd{names:List Str}{g:Nat}{R:List Rw}(I:TI names (names.drop g) g R)(D:names.Nodup)(hw:∀s∈names,Wd s)(L:names.length<=9)(M:g<=4):Gd R names:=by
 have E:=I.len;have gp:∀p∈R.filterMap Rw.gp,p.1∈names.take g:=λp u=>by
  obtain⟨x,l,e⟩:=bR.mp u;rcases I.ok x l with⟨_,_,rfl,_⟩|⟨a,j,c,hc,rfl⟩<;>cases e
  exact j
 have B:(GN (R.filterMap Rw.gp)).length<=4:=by
  refine aY (TZ (m:=names.take g) (Rx I.pw) λa j=>?_) (by rw[cS];lia);obtain⟨p,u,rfl⟩:=aO.mp j;exact gp p u
 delta GN at B;rw[ag]at B;refine⟨λx l=>?_,I.pw,by lia,aY (ij _ _) (by lia),by lia,λx l w t=>?_,λp u hq=>?_⟩
 .rcases I.ok x l with h|⟨a,j,c,hc,rfl⟩
  .exact h.ok hw λs hs=>eN hs
  .exact⟨hw _ (gI j),hw _ hc⟩
 .rcases I.ok x l with⟨h,b,rfl,h1,h2,_⟩|⟨a,j,c,hc,rfl⟩
  .rcases ap.mp t with rfl | z
   .exact eN h1
   .exact h2 w z
  .simp[Rw.ws]at t;rcases t with rfl | rfl
   .exact gI j
   .exact hc
 .obtain⟨x,l,e⟩:=bR.mp u;obtain⟨q,hq,e2⟩:=aO.mp hq;have h1:=gp q hq;rcases I.ok x l with⟨h,b,rfl,h2,_⟩|⟨a,j,c,hc,rfl⟩<;>cases e
  rw[<-iX g names]at D;exact(dL.mp D).2.2 _ h1 _ h2 e2
def Gb{ms:List Nat}{i:Nat}{mk m:pI}{l:oN}{xs:List PV}(h:l[i]?=Z (.ow xs)):uH ms i mk m l=(mk l).bind λj=>(m l).bind λr=>JL ms i l xs r j:=by
 delta uH;rw[h]
def Mz{ms:List Nat}{i:Nat}{l:oN}{xs:List PV}{r:PV}{j:Nat}(h:j<=xs.length)(h2:xs.length<=1000)(h3:(flat r || !ms.contains i)=Y):JL ms i l xs r (pN j)=Z (.nx ((QZ (flat r) ms l).set i (.ow (xs.take j++r::xs.drop j)))):=by
 show(if 0<=(j:Int)/\(j:Int)<=xs.length/\xs.length<=1000/\(flat r || !ms.contains i)=Y then Z (tV.nx ((QZ (flat r) ms l).set i (.ow (xs.take (j:Int).toNat++r::xs.drop (j:Int).toNat)))) else O)=_;rw[aw ⟨by lia,by lia,h2,h3⟩,dn]
def MA(q:PV)(E:List PV)(s2:Slot)(g:Nat)(R:List Rw)(o:List Str)(s6 s7:Slot):oN:=[.fz q,.fz (.lst E),s2,.fz (pN g),.ow (R.map Rw.v),.ow (o.map .str),s6,s7]
def tx1{q:PV}{E:List PV}{names o:List Str}{g k:Nat}{R:List Rw}{s2 s7:Slot}(hE:Dr E 60)(T:names.Nodup)(h9:names.length<=9)(L:k<names.length)(zw:k<4)(ho:∀s∈o,s∈names)(h2:sN (names.map .str) s2)(I:TI names o k R) :
  ∃(l:List Rw)(B D:Slot),Zw (MA q E s2 g R o (.fz (pN k)) s7)=Z (.nx (MA q E B g l o (.fz (pN k)) D))/\sN (names.map .str) B/\TI names o (k+1) l:=by
 obtain⟨zy,e2⟩:=hE.2 (2+k) (by lia);obtain⟨u,J⟩:=hE.2 6 (by decide);obtain⟨j,H⟩:=hE.2 (44+k) (by lia);have hm:zy%names.length<names.length:=bU _ (by lia);have M:=I.len;have hp:j%(R.length+1)<R.length+1:=bU _ (by lia);delta Zw MA;generalize hq:uH [2,6,7] 4 _ _=ins;have zx:∀b∈names,∃(l:List Rw)(B D:Slot),ins [.fz q,.fz (.lst E),s2,.fz (pN g),.ow (R.map Rw.v),.ow (o.map .str),.fz (pN k),.fz (.str b)]=Z (.nx [.fz q,.fz (.lst E),B,.fz (pN g),.ow (l.map Rw.v),.ow (o.map .str),.fz (pN k),D])/\sN (names.map .str) B/\TI names o (k+1) l:=λb hb=>by
  subst hq;rcases h2 with rfl | rfl <;>
  .rw[Gb (xs:=R.map Rw.v) rfl];ext;rw[H];ext;rw[My L];ext;rw[Mz (by rw[ag];lia) (by rw[ag];lia) rfl];exact⟨R.take (j%(R.length+1))++Rw.g names[k] b::R.drop (j%(R.length+1)),_,_,by rw[bw,List.map_take,aT,kS];rfl,.inr rfl,I.ins T L hb _⟩
 rcases h2 with rfl | rfl <;>
 .ext;rw[e2];ext;rw[My hm];ext;rw[T7 (b:=u%4==1||u%4==2) (by
   ext;rw[J];ext;exact Hj (by
    ext;rw[J];ext
    try rfl))]
  cases hc:(decide (0<o.length)&&(u%4==1||u%4==2)) with
  |false =>
   ext;exact zx _ (bu hm)
  |true =>
   have h0:0<o.length:=bD (i7.mp hc).1;have t:k%o.length<o.length:=bU _ h0;ext;rw[My t];ext;exact zx _ (ho _ (bu t))
def Gc(ns:List Int):∃(R:List Rw)(names:List Str),YJ [.lst (ns.map .int)]=Z (.str (aL nl (R.map Rw.line)))/\Gd R names:=by
 obtain⟨E,ed,hE⟩:=Ms (ns.getD 1 0) (n:=60) (by decide);obtain⟨zx,g0⟩:=hE.2 0 (by decide);obtain⟨d1,g1⟩:=hE.2 1 (by decide);obtain⟨H,J⟩:=hE.2 52 (by decide);have av:zx%9<9:=bU _ (by decide);have az:d1%5<5:=bU _ (by decide);obtain⟨names,en,j,hw,h9,h1⟩:=Bh (ns.getD 0 0) (size:=1+zx%9) (by lia) (by lia);delta YJ;ext;rw[tR];ext;rw[ed];ext;rw[tR];ext;rw[g0];ext;rw[en];ext;rw[g1];ext;rw[J];ext;generalize T:tK (oM (Qs [1,2,3] 4 _) _)=kk;have tail:∀(nm:List Str)(g:Nat)(s2:Slot),nm.Nodup->(∀s∈nm,Wd s)->nm.length<=9->0<nm.length->g<=nm.length->g<=4->sN (nm.map .str) s2->∃(R:List Rw)(names:List Str),(kk (.nx [.fz (.lst (ns.map .int)),.fz (.lst E),s2,.fz (pN g),.un,.un,.un,.un])).bind rm=Z (.str (aL nl (R.map Rw.line)))/\Gd R names:=λnm g s2 j hw h9 h1 hg l h2=>by
  subst T;obtain⟨K,ek,k1,k2,k3⟩:=Bm (g:=g) hE h1 h9 hw hg l;rw[tL];generalize hr:oR _=ret;have fin:∀t,sN (nm.map .str) t->∃(R:List Rw)(names:List Str),((pQ (oY 6) Zw (oO (ai g)) (MA (.lst (ns.map .int)) E t g K (nm.drop g) .un .un)).bind (tK ret)).bind rm=Z (.str (aL nl (R.map Rw.line)))/\Gd R names:=λt h2=>by
   obtain⟨aq,e,R,u,L,D,rfl,_,I⟩:=T6 (g:=oY 6) (b:=Zw) (λk zw=>∃(R:List Rw)(t L D:Slot),zw=MA (.lst (ns.map .int)) E t g R (nm.drop g) L D/\sN (nm.map .str) t/\TI nm (nm.drop g) k R) g (MA (.lst (ns.map .int)) E t g K (nm.drop g) .un .un) ⟨K,_,_,_,rfl,h2,λx B=>.inl (k1 x B),k2,k3⟩ (λk zw T zz=>by
    obtain⟨R,t,L,D,e,h2,I⟩:=zz;subst e;obtain⟨R',u,aj,e',M,I'⟩:=tx1 (q := .lst (ns.map .int)) (g:=g) (s7:=D) hE j h9 (show k<nm.length by lia) (by lia) (λs hs=>eN hs) h2 I;exact⟨_,_,rfl,e',R',u,_,_,rfl,M,I'⟩)
   have G:=I.gd j hw h9 l;have zy:=I.len;refine⟨R,nm,?_,G⟩;subst hr;rw[e];delta MA;ext;rw[Qk Rw.v (λx=>PV.str x.line) R λx B=>⟨_,rfl,by ext;rw[LL (G.ok x B)]⟩];ext;have e5:=Xg (R.map Rw.line) 110 λs hs=>by
    obtain⟨x,B,rfl⟩:=aO.mp hs;exact(Rs (G.ok x B)).2
   have e3:("\n":Str).length=1:=by decide+kernel
   rw[ag]at e5;rw[show R.map (λx=>PV.str x.line)=(R.map Rw.line).map PV.str by rw[aB];rfl,pJoin_s (by rw[e3,ag];lia)];rfl
  have hf:(K.map Rw.v).all flat=K.isEmpty:=by
   cases K with
   |nil=>rfl
   |cons x K=>cases x<;>rfl
  rcases h2 with rfl | rfl <;>
  .ext;rw[ek];ext;rw[hf];cases K.isEmpty <;>
   .ext;rw[Xi];ext;refine fin _ ?_;first | exact .inl rfl | exact .inr rfl
 cases H%8==1 with
 |false =>
  ext;exact tail names _ _ j hw h9 (by lia) (by lia) (by lia) (.inr rfl)
 |true =>
  ext;rw[E3];ext;exact tail (names.take 4) _ _ (List.Sublist.nodup (jD _ _) j) (λs hs=>hw s (gI hs)) (by rw[cS];lia) (by rw[cS];lia) (by simp) (by rw[cS];lia) (.inl rfl)
end DH
namespace DH
open PySem PySem.Spec PyProof.Rows L2 L2.PM PySem.Builtin.Str
def sx{a b:Str}(h:a.cps.toList=b.cps.toList):a=b:=by
 cases a;cases b;simpa using h
def Qq(a b:Str):(a++b).cps.toList=a.cps.toList++b.cps.toList:=by
 show(a.cps++b.cps).toList=_;simp
def MB{n:Nat}(h:1<=n):dY (Z (-1)) O 1 n=dY (Z ((n-1:Nat):Int)) (Z (n:Int)) 1 n:=by
 delta dY;simp only[show((1:Int)>0)=True by simp,iI,show((-1:Int)<0)=True by simp,show ¬(((n-1:Nat):Int)<0) by lia,show ¬((n:Int)<0) by lia,gG,show(-1+(n:Int))=((n-1:Nat):Int) by lia,show max (0:Int) (min (n:Int) (n:Int))=n by lia]
def MC{n:Nat}(h:1<=n):dY (Z ((1:Nat):Int)) (Z (-1)) 1 n=dY (Z ((1:Nat):Int)) (Z ((n-1:Nat):Int)) 1 n:=by
 delta dY;simp only[show((1:Int)>0)=True by simp,iI,show((-1:Int)<0)=True by simp,show ¬(((n-1:Nat):Int)<0) by omega,gG,show(-1+(n:Int))=((n-1:Nat):Int) by omega]
section
variable(J:Str)
def Ge:(("{":Str)++J++("}":Str)).length=J.length+2:=by
 rw[Qm,Qm,show("{":Str).length=1 from rfl,show("}":Str).length=1 from rfl];lia
def Y0:(("{":Str)++J++("}":Str)).cps.toList=123::(J.cps.toList++[125]):=by
 rw[Qq,Qq];rfl
def Y1:cw (("{":Str)++J++("}":Str)) O (Z ((1:Nat):Int)) = "{":=sx (by
 rw[Mt _ (by rw[Ge];lia),Y0];rfl)
def Y2:cw (("{":Str)++J++("}":Str)) (Z (-1)) O = "}":=sx (by
 rw[Rq _ (a:=J.length+1) (b:=J.length+2) (by lia) (by rw[Ge];lia) _ O (by rw[MB (by rw[Ge];lia),Ge];rfl),Y0,<-gD,iV (by simp[cE]),show J.length+2-(J.length+1)=1 by lia];rfl)
def Y3:cw (("{":Str)++J++("}":Str)) (Z ((1:Nat):Int)) (Z (-1))=J:=sx (by
 rw[Rq _ (a:=1) (b:=J.length+1) (by lia) (by rw[Ge];lia) _ _ (by rw[MC (by rw[Ge];lia),Ge];rfl),Y0,mZ,kW,kv,show J.length=J.cps.toList.length by simp[cE],ku])
end
def Ur:aA ("{":Str)=Y/\aA ("}":Str)=Y/\aA ("{}":Str)=Y:=by decide+kernel
def R0{a:Str}(h:aA a=Y):sg (.str a) (.str a)=Z (.bl U):=by rw[Rc h h,bW];rfl
def R3{a:Str}(h:aA a=Y):pC (.str a) (.str a)=Z (.bl Y):=by rw[Xo h h,bW]
def MD{N:List Str}(l:N.Nodup){k:Nat}(h:k<N.length):N.idxOf (pJ N k)=k:=by
 rw[show pJ N k=N[k] by simp[pJ,h]];exact l.idxOf_getElem k h
def Us{N:List Str}{w:Str}(h:w∈N):N.any (·==w)=Y:=dg.mpr ⟨w,h,by simp⟩
def QiF(pre:List Nat)(k:Nat)(h:∀i∈pre,i<k):Qy (pre++[k])=Qy pre+2^k:=by
 have e:Qy (pre++[k])=Qy pre|||2^k:=by delta Qy;rw[ia];rfl
 have:=Nat.two_pow_add_eq_or_of_lt (Uq h) 1;rw[Nat.mul_one]at this;rw[e,Nat.or_comm,<-this,Nat.add_comm]
def Qlb(m:Nat):Qy (qG m)=m:=bK λi=>by
 rw[QG,cf,bM,XA]
def Bn{s:Str}(h:Wd s):32∉s.cps.toList:=λz=>by have:=h.low 32 z;lia
def R4:qG 0=[]:=by
 refine List.eq_nil_iff_forall_not_mem.mpr λk j=>?_;have:=XA.mp j;simp at this
def Hr{m:Nat}(h:m≠0):∃k ks,qG m=k::ks:=by
 cases e:qG m with
 |nil=>exact absurd (by rw[<-Qlb m,e];rfl) h
 |cons k ks=>exact⟨k,ks,rfl⟩
def Y4(N:List Str):pY N 0 = "{}":=by
 delta pY sU;rw[R4];rfl
def R5{N:List Str}(hw:∀s∈N,Wd s){m:Nat}(hm:m<2^N.length)(h:m≠0):(pY N m=="{}")=U:=by
 obtain⟨k,ks,e⟩:=Hr h;refine bc.mpr λz=>?_;have z:=congrArg cE z;unfold pY at z;rw[Ge,show("{}":Str).length=2 from rfl]at z;have j:=XS hm k (by rw[e];simp);have h1:=(hw _ (Qt j)).l1;unfold sU at z;rw[e,aT,Qv]at z;simp at z;omega
local macro_rules|`(tactic| fail"e")=>`(tactic| first|assumption|omega|(simp only[pT,pF,List.length_map,List.length_range,List.length_cons,List.length_nil,List.length_append];omega)|decide)
local macro_rules|`(tactic| walk_at "ev")=>`(tactic| try simp (disch:=fail"e") only[qV,tp,uo])
def R6{N:List Str}(hw:∀s∈N,Wd s)(I:N.Nodup)(T:N.length<=30){m:Nat}(hm:m<2^N.length):Ze [.tup (N.map .str),.str (pY N m)]=Z (pN m):=by
 have t:∀s∈N,rh s:=λs hs=>A5 (hw s hs);have J:∀s∈N,aA s=Y:=λs hs=>XE (hw s hs);have sl:=Xy T t hm;have L:=AV t hm;have e1:cw (pY N m) O (Z ((1:Nat):Int)) = "{":=Y1 _;have e2:cw (pY N m) (Z (-((1:Nat):Int))) O = "}":=Y2 _;have e3:cw (pY N m) (Z ((1:Nat):Int)) (Z (-((1:Nat):Int)))=sU N (qG m):=Y3 _;have zw:(pY N m=="{")=U:=bc.mpr λz=>by
  have z:=congrArg cE z;unfold pY at z;rw[Ge,show("{":Str).length=1 from rfl]at z;omega
 unfold Ze;ext;rw[e1,R0 Ur.1];ext;rw[e2,R0 Ur.2.1];ext;rw[Xo L Ur.1,zw];ext;rw[Xo L Ur.2.2];by_cases u:m=0
 .subst u;rw[Y4,bW];ext
  try rfl
 .rw[R5 hw hm u];ext;rw[e3];obtain⟨k0,ks,M⟩:=Hr u;have hs:eU (sU N (qG m)) sp=(qG m).map (pJ N):=by
   unfold sU;rw[M,aT];exact TV _ _ λs hs=>by
    rw[<-aT,<-M]at hs;obtain⟨k,j,rfl⟩:=aO.mp hs;exact Bn (hw _ (Qt (XS hm k j)))
  have jl:=W2 t λk j=>XS hm k j;have pl:=W1 hm;rw[W3 (by omega),hs];ext;obtain⟨zy,ef,a,B,rfl,_⟩:=QW (g:=oY 4) (b:=Wp) (λk=>PV.str (pJ N k)) (λpre zx=>∃(a:Int)(B:Slot),zx=[.fz (.tup (N.map .str)),.fz (.str (pY N m)),.fz (.int a),.fz (pN (Qy pre)),B]/\(a = -1\/∃i∈pre,a=((i:Nat):Int))) (qG m) (qG m) [] [.fz (.tup (N.map .str)),.fz (.str (pY N m)),.fz (.int (-((1:Nat):Int))),.fz (pN 0),.un] rfl ⟨_,_,rfl,.inl rfl⟩ (λpre k post zx e ⟨a,B,D,ha⟩=>by
   subst D;have j:=XS hm k (by rw[<-e];simp);have ur:=QkS m;rw[<-e,eM]at ur;have l:∀i∈pre,i<k:=λi E=>ur.2.2 i E k (by simp);have H:decide ((k:Int)<=a)=U:=a5 λz=>by
    rcases ha with rfl|⟨i,E,rfl⟩
    .omega
    .have:=l i E;omega
   refine⟨_,_,rfl,?_,(k:Int),.fz (.str (pJ N k)),rfl,.inr ⟨k,by simp,rfl⟩⟩;unfold Wp;ext;rw[Wi (J _ (Qt j)) J,Us (Qt j)];ext;rw[Yi (Qt j),MD I j];ext;rw[show GC (pN k) (.int a)=Z (.bl (decide ((k:Int)<=a))) from rfl,H];ext;rw[Yi (Qt j),MD I j];ext;rw[QiF pre k l]
   try rfl)
  rw[aB,show(PV.str∘pJ N)=λk=>PV.str (pJ N k) from rfl,ef,Qlb];ext
  try rfl
def Gf{A B y:Str}{c:Nat}{l:List Nat}(hy:y.cps.toList=c::l)(D:c∉A.cps.toList):gh (A++y++B) y=(A,y,B):=by
 have L:(A++y++B).cps.toList=A.cps.toList++(y.cps.toList++B.cps.toList):=by rw[Qq,Qq,bX]
 have j:=ZI A;have t:=ZI y;have M:=ZI B;have u:(A++y++B).length=A.length+y.length+B.length:=by rw[Qm,Qm]
 have no:∀k,k<A.length->¬StrLaws.At (A++y++B) y (A++y++B).length k:=λk zy h=>by
  have h2:=h.2;rw[kL,L,a9,hy,List.drop_append_of_le_length (by lia)]at h2;have h3:=congrArg List.head? h2;rw[cy (by lia)]at h3;have E:y.length=l.length+1:=by rw[<-t,hy];rfl
  rw[E]at h3;simp at h3;exact D (h3▸bu _)
 have yes:StrLaws.At (A++y++B) y (A++y++B).length A.length:=⟨by lia,by
  rw[kL,L,a9,iV j,j9 t]⟩
 rcases partition_whole (A++y++B) y with⟨_,h⟩|⟨i,e,h1,h2⟩
 .exact absurd yes (h _)
 .have H:i=A.length:=by
   rcases h7 i A.length with z | z | z
   .exact absurd h1 (no i z)
   .exact z
   .exact absurd yes (h2 _ z)
  subst H;rw[e];have I:strSub (A++y++B) 0 A.length=A:=sx (by rw[og,L,gs,Nat.sub_zero,j9 j]);have J:strSub (A++y++B) (A.length+y.length) (A++y++B).length=B:=sx (by
   rw[og,L,<-bX,iV (by rw[a0];lia),u,di (by lia)])
  rw[I,J]
def Qis{A B y:Str}{c:Nat}{l:List Nat}(hy:y.cps.toList=c::l)(D:c∉A.cps.toList)(h:(A++y++B).length<=9000):GZ (.str (A++y++B)) [.str y]=Z (.tup [.str A,.str y,.str B]):=by
 have j:y.length=l.length+1:=by rw[<-ZI y,hy];rfl
 show(if (y.length==0)=U/\(A++y++B).length<=qy then _ else O)=_;rw[aw ⟨by rw[j];rfl,Ya (by lia)⟩,Gf hy D]
def Gg{N:List Str}(hw:∀s∈N,Wd s){m:Nat}(hm:m<2^N.length):∀c∈(sU N (qG m)).cps.toList,c<123:=by
 delta sU;generalize hz:(qG m).map (pJ N)=ws;have j:∀s∈ws,Wd s:=λs hs=>by
  rw[<-hz]at hs;obtain⟨k,l,rfl⟩:=aO.mp hs;exact hw _ (Qt (XS hm k l))
 clear hz;induction ws with
 |nil=>intro c hc;rw[XX]at hc;cases hc
 |cons w ws t =>
  intro c hc;have h1:∀c∈w.cps.toList,c<123:=λc hc=>by have:=(j w (by simp)).low c hc;lia
  cases ws with
  |nil=>rw[QF]at hc;exact h1 c hc
  |cons v vs =>
   rw[Ql,Qq,Qq]at hc;rcases aS.mp hc with hc | hc
   .rcases aS.mp hc with hc | hc
    .exact h1 c hc
    .rw[show(" ":Str).cps.toList=[32] by decide+kernel,am]at hc;lia
   .exact t (λs hs=>j s (by simp[hs])) c hc
def Qlt{N:List Str}(hw:∀s∈N,Wd s)(D:N.Nodup)(B:N.length<=30){c zy:Nat}{rs:List Nat}(hc:c<2^N.length)(I:zy<2^N.length)(hr:zy∈rs)(hs:zy&&&c=zy) :
  YU [.tup (N.map .str),.str (we N (c,zy)),.tup (oO rs)]=Z (pN c):=by
 have j:∀s∈N,rh s:=λs hs=>A5 (hw s hs);have l1:=Xy B j hc;have l2:=Xy B j I;have t:we N (c,zy)=(("{":Str)++sU N (qG c))++"} {"++(sU N (qG zy)++"}"):=by
  delta we pY;refine sx ?_;simp only[Qq,bX];rfl
 have u:(we N (c,zy)).length<=1500:=by
  show(pY N c++" "++pY N zy).length<=1500;rw[Qm,Qm,show(" ":Str).length=1 from rfl];lia
 have e1:GZ (.str (we N (c,zy))) [.str "} {"]=Z (.tup [.str ("{"++sU N (qG c)),.str "} {",.str (sU N (qG zy)++"}")]):=by
  rw[t]at u |-;refine Qis (c:=125) (l:=[32,123]) (by decide+kernel) (λz=>?_) (by lia);rw[Qq]at z;rcases aS.mp z with z | z
  .rw[show("{":Str).cps.toList=[123] by decide+kernel,am]at z;lia
  .have:=Gg hw hc _ z;lia
 have e2:("{":Str)++(sU N (qG zy)++"}")=pY N zy:=by
  delta pY;refine sx ?_;simp only[Qq,bX]
 delta YU;ext;rw[e1];ext;rw[qC (by delta pY at l1;rw[Qm]at l1;lia),show("{":Str)++sU N (qG c)++"}"=pY N c from rfl];ext;rw[R6 hw D B hc];ext;rw[qC (by rw[<-e2,Qm]at l2;lia),e2];ext;rw[R6 hw D B I];ext;rw[a8 hr];ext;rw[hs,bW];ext
 try rfl
def Y5{zy W:Nat}(h:∀g,zy.testBit g=Y->W.testBit g=Y):zy&&&W=zy:=by
 refine bK λk=>?_;rw[ce];cases j:zy.testBit k with
 |false=>rfl
 |true=>rw[h k j];rfl
def R7(b:Bk)(w c:Nat):List Nat:=(vo b w).filter λzy=>zy&&&c==zy
def Qim{b:Bk}(ok:b.Ok){w c:Nat}(hw:w<b.words)(hc:c<2^b.banes.length):decide (0<(R7 b w c).length)=(yl b c).testBit w:=by
 rw[cf,bM,List.length_pos_iff_exists_mem];delta R7;constructor
 .rintro⟨zy,l⟩;obtain⟨h1,h2⟩:=aK.mp l;refine T9 ok (λg j=>?_) (XV.mp h1).2.1;have h2:=a9.mp h2;rw[<-h2,ce,aQ]at j;exact j.2
 .intro hy;obtain⟨_,h1,h2⟩:=Uf ok hc hw hy;exact⟨_,aK.mpr ⟨XV.mpr ⟨LZ hc h1,h2⟩,a9.mpr (Y5 h1)⟩⟩
def Bo{b:Bk}(ok:b.Ok){w c:Nat}(hw:w<b.words)(hc:c<2^b.banes.length)(hy:(yl b c).testBit w=Y):RU b c w∈vo b w/\RU b c w&&&c=RU b c w:=by
 obtain⟨_,h1,h2⟩:=Uf ok hc hw hy;exact⟨XV.mpr ⟨LZ hc h1,h2⟩,Y5 h1⟩
def Bp(a b:Str):cw (a++b) (Z (a.length:Int)) O=b:=sx (by rw[RY,Qq,iV (ZI a)])
def ME(a b:Str):cw (a++b) O (Z (a.length:Int))=a:=sx (by rw[Mt _ (by rw[Qm];lia),Qq,j9 (ZI a)])
def Np{a:List Str}(h:∀s∈a,aA s=Y):pC (.lst (a.map .str)) (.lst (a.map .str))=Z (.bl Y):=by rw[Bj h h,bW]
def Ut:∀s∈(["settled ","sure","never","maybe"]:List Str),aA s=Y:=by decide+kernel
set_option tactic.hygienic true in
def MF{R:List Rw}{M:List Str}(G:Gd R M){m w:Nat}{rs:List Str}(L:QS [(oV R).enc]=Z (.tup [pN (it (oV R) m),.tup ((ai (oV R).banes.length).map (rz (oV R) (m+1)))]))(hw:w<(oV R).words)(h:u4 (oV R) (oZ R) m w rs) :
  Xw [.tup ((oZ R).map .str),(oV R).enc,pN w,.lst (rs.map .str)]=Z (.bl Y):=by
 have ok:=Yb G;have u:=RQ G;have B:=Ul G;have l:=YE G;have E:(oV R).banes.length<=(oZ R).length:=ok.gw;have rl:=Ma ok w;have J:=XD ok 0;have t:=Uc (oV R) m;have up {k:Nat} (h:k<2^(oV R).banes.length):k<2^(oZ R).length:=Mh E h;have I {c:Nat} (hc:c<2^(oV R).banes.length) (hy:(yl (oV R) c).testBit w=Y):=Uo ok hc hw hy;delta Xw;generalize D:PV.lst (rs.map .str)=v;ext;rw[QfP ok hw];ext;rw[L];ext;rw[Ud ok];ext;rw[Rb (λc=>(yl (oV R) c).testBit w) (pL (oV R) 0) λc hc=>⟨_,rfl,by
  ext;rw[Rb (λzw=>zw&&&c==zw) (vo (oV R) w) λzw zx=>⟨_,rfl,by ext,rfl⟩];have:=bf (λzw=>zw&&&c==zw) (vo (oV R) w);ext;exact congrArg Z (Qim ok hw (ZG hc)),rfl⟩]
 ext;rw[Rb (λzw=>zw&&&it (oV R) m==zw) (vo (oV R) w) λzw zx=>⟨_,rfl,by ext,rfl⟩];have:=bf (λzw=>zw&&&it (oV R) m==zw) (vo (oV R) w);ext;rw[show decide (0<((vo (oV R) w).filter λzw=>zw&&&it (oV R) m==zw).length)=_ from Qim ok hw t];have T:(pU (oV R) w).length<=256:=aY (bf _ _) J;rw[show(pL (oV R) 0).filter (λc=>(yl (oV R) c).testBit w)=pU (oV R) w from rfl];cases h with
 |settled h =>
  obtain⟨h1,h2⟩:=Bo ok hw t h;have sl:=Xy l (wg G) (up (I t h));have zy:("settled ":Str).length=8:=rfl;have ll:=Qm "settled " (pY (oZ R) (RU (oV R) (it (oV R) m) w));have p1:=Bp "settled " (pY (oZ R) (RU (oV R) (it (oV R) m) w));have p2:=ME "settled " (pY (oZ R) (RU (oV R) (it (oV R) m) w));rw[zy]at p1 p2;rw[h];subst D;ext;rw[p1,R6 u B l (up (I t h))];ext;rw[show(0+1==1)=Y from rfl];ext;rw[p2,R3 (Ut _ (by simp))];ext;rw[a8 h1];ext;rw[h2,bW]
  try rfl
 |sure h h2 =>
  have hy:pU (oV R) w=pL (oV R) 0:=je.mpr λc hc=>by
   have:=List.filter_eq_nil_iff.mp h2 c hc;simpa using this
  rw[h,hy];ext;rw[show((pL (oV R) 0).length==0)=U from bc.mpr λz=>Fv _ (b4.mp z)];ext;rw[bW];subst D;ext;rw[R3 (Ut _ (by simp))];ext;rw[Xi,kW,kv,hy,qB (by rw[ag,ag];omega),aB,Qk (PV.str∘λc=>we (oZ R) (c,RU (oV R) c w)) pN (pL (oV R) 0) λc hc=>⟨_,rfl,by
   obtain⟨j,H⟩:=Bo ok hw (ZG hc) (by rw[<-hy]at hc;exact(aK.mp hc).2);ext;exact Qlt u B l (up (ZG hc)) (up (XV.mp j).1) j H⟩]
  ext;rw[show(pL (oV R) 0).map pN=oO (pL (oV R) 0) from rfl,L6,bW]
  try rfl
 |never h h2 h3 =>
  rw[h,h3];subst D;ext;rw[show(0==0)=Y from rfl];ext;rw[show PV.lst [.str "never"] = .lst ((["never"]:List Str).map .str) from rfl,Np λs hs=>Ut s (by simp at hs;simp[hs])]
  try rfl
 |maybe h h2 h3 =>
  rename_i c d;have hc:=aK.mp h2;have hd:=aK.mp h3;rw[h];ext;rw[show((pU (oV R) w).length==0)=U from bc.mpr λz=>by rw[b4.mp z]at h2;cases h2];ext;rw[show((pU (oV R) w).length==(pL (oV R) 0).length)=U from bc.mpr λz=>by
   have z:=je.mp (List.filter_sublist.eq_of_length z) d hd.1;simp[z]at hd]
  subst D;ext;rw[show(0+1+1+1==3)=Y from rfl];ext;rw[R0 (Ut _ (by simp))];ext;obtain⟨j,H⟩:=Bo ok hw (ZG hc.1) hc.2;rw[Qlt u B l (up (ZG hc.1)) (up (XV.mp j).1) j H];ext;rw[a8 h2];ext;rw[R6 u B l (up (ZG hd.1))];ext;rw[a8 hd.1];ext;rw[a5 λz=>by have z:=(aK.mp z).2;simp[z]at hd]
  try rfl
def Qlw(m g:Nat):(m/2^g%2==0) = !m.testBit g:=by
 rw[Nat.testBit_eq_decide_div_mod_eq];rcases Nat.mod_two_eq_zero_or_one (m/2^g) with h | h<;>rw[h]<;>rfl
def R8:∀s∈(["torn","bare","stands",""]:List Str),aA s=Y:=by decide+kernel
def Hs:∀t∈(["torn","bare"]:List Str),Bb t=Y/\t.length=4:=by decide+kernel
def vX(N:List Str)(t:Str)(g:Nat):Str:=aL sp [t,pJ N g,""]
def MG(N:List Str)(t:Str)(g zy:Nat):Nn N t g zy=vX N t g++pY N zy:=by
 delta Nn vX;refine sx ?_;simp only[Ql,QF,Qq,bX];rfl
def Gh(N:List Str)(t:Str)(g:Nat):(vX N t g).length=t.length+(pJ N g).length+2:=by
 delta vX;rw[Ql,Ql,QF,Qm,Qm,Qm,Qm,show(sp:Str).length=1 from rfl,show("":Str).length=0 from rfl];lia
local macro_rules|`(tactic| walk_at "ev")=>`(tactic| try simp (disch:=fail"e") only[qE,qj,qF,pK,qV,tp,uo])
def Qln{R:List Rw}{M:List Str}(G:Gd R M){held g zw:Nat}{t:Str}(D:t∈(["torn","bare"]:List Str))(hs:sJ (oV R) held=U)(I:g<(oV R).banes.length)(zx:held.testBit g=Y)(L:zw∈vo (oV R) (bn (oV R) g))(hf:(if (stk (oV R) held&&&held==0)=U then t=="torn"&&zw&&&held==zw else t=="bare"&&stk (oV R) held&&&zw==0)=Y) :
  Zy [.tup ((oZ R).map .str),(oV R).enc,pN held,.lst [.str (Nn (oZ R) t g zw)]]=Z (.bl Y):=by
 have ok:=Yb G;have E:=RQ G;have H:=Ul G;have J:=YE G;have u:(oV R).banes.length<=(oZ R).length:=ok.gw;have j:g<(oZ R).length:=aF I u;have hw:Wd (pJ (oZ R) g):=E _ (Qt j);have B:zw<2^(oZ R).length:=Mh u (XV.mp L).1;have sl:=Xy J (wg G) B;have T:=hw.l2;have t4:=(Hs t D).2;have tl:=F7 (Hs t D).1;have to:aA t=Y:=R8 t (by simp at D |-;rcases D with rfl | rfl<;>simp);have zy:=Gh (oZ R) t g;have fl:(vX (oZ R) t g++pY (oZ R) zw).length<=800:=by rw[Qm];omega
 have e1:GZ (.str (vX (oZ R) t g++pY (oZ R) zw)) [.str "{"]=Z (.tup [.str (vX (oZ R) t g),.str "{",.str (sU (oZ R) (qG zw)++"}")]):=by
  have e:vX (oZ R) t g++pY (oZ R) zw=vX (oZ R) t g++"{"++(sU (oZ R) (qG zw)++"}"):=by
   unfold pY;refine sx ?_;simp only[Qq,bX]
  rw[e]at fl |-;refine Qis (c:=123) (l:=[]) (by decide+kernel) (λz=>?_) (by omega);unfold vX at z;simp only[Ql,QF,Qq]at z;rw[show(sp:Str).cps.toList=[32] from rfl,show("":Str).cps.toList=[] by decide+kernel]at z;simp only[aS,am,d6,iw]at z;rcases z with(z | z) | (z | z)
  .have:=tl _ z;omega
  .omega
  .have:=hw.low _ z;omega
  .omega
 have e2:Yz (.str (vX (oZ R) t g)) [.str " "]=Z [.str t,.str (pJ (oZ R) g),.str ""]:=by
  rw[W3 (by omega)];unfold vX;rw[TV _ _ λs hs=>?_]
  .rfl
  .simp at hs;rcases hs with rfl | rfl | rfl
   .intro z;have:=tl _ z;omega
   .exact Bn hw
   .decide+kernel
 have e3:=Bp (vX (oZ R) t g) (pY (oZ R) zw);rw[zy]at e3;rw[MG];unfold Zy;ext;rw[WT ok,hs];ext;rw[e1];ext;rw[e2];ext;rw[show(0+1==1)=Y from rfl];ext;rw[show(0+1+1+1==3)=Y from rfl];ext;rw[Wi (XE hw) λs hs=>XE (E s hs),Us (Qt j)];ext;rw[R0 (R8 _ (by simp))];ext;rw[Yi (Qt j),MD H j];ext;rw[e3,R6 E H J B];have h8:=ok.g8;ext;rw[a5 (show ¬(oV R).banes.length<=g by omega)];ext;rw[uW (cN g) (hL (dG (by decide) (show g<=8 by omega)) (by decide))];ext;rw[Qlw,zx];ext;rw[AH I];ext;rw[QfP ok (Hl ok I)];ext;rw[a8 L];ext;rw[RB ok];ext;cases hc:(stk (oV R) held&&&held==0) with
 |false =>
  rw[hc,aw rfl,aQ]at hf;obtain rfl:=a9.mp hf.1;ext;rw[R3 to];ext;rw[hf.2]
  try rfl
 |true =>
  rw[hc,aN (by simp),aQ]at hf;obtain rfl:=a9.mp hf.1;ext;rw[R3 to];ext;rw[RB ok];ext;rw[hf.2]
  try rfl
set_option tactic.hygienic true in
def Gi{R:List Rw}{M:List Str}(G:Gd R M){held:Nat}{rs:List Str}(l:held<2^(oV R).banes.length)(h:No R held rs):Zy [.tup ((oZ R).map .str),(oV R).enc,pN held,.lst (rs.map .str)]=Z (.bl Y):=by
 have ok:=Yb G;cases h with
 |non h =>
  delta Zy;ext;rw[WT ok,h];ext;rw[show PV.lst [.str "stands"] = .lst ((["stands"]:List Str).map .str) from rfl,Np λs hs=>R8 s (by simp at hs;simp[hs])];rfl
 |torn h h2 h3 j t =>
  refine Qln G (by simp) h (Hk l h3) h3 (XV.mpr ⟨LZ l j,t⟩) ?_;rw[lz,h2,aw rfl,Y5 j,bW,bW];rfl
 |bare h h2 h3 j t =>
  refine Qln G (by simp) h (Hk l h3) h3 (XV.mpr ⟨LZ (T8 _ _) j,t⟩) ?_;rw[lz,h2,aN (by simp),bW,fU,a9];refine bK λk=>?_;rw[ce,iC];rename_i g zy;cases u:zy.testBit k with
  |false=>rw[i6]
  |true =>
   have:=j k u;rw[WR,aQ,gu]at this;rw[this.2];rfl
local macro_rules|`(tactic| walk_at "ev")=>`(tactic| try simp (disch:=fail"e") only[Hg,qR,vk])
def R9{b:Bk}(ok:b.Ok){held word known n k:Nat}{sl:PV}{r:pR}(hr:b.rules[k]?=Z r)(l:∀x∈r.body,known.testBit x=Y) :
  Yv [.fz b.enc,.fz (pN held),.fz (pN word),.fz sl,.fz (.tup (b.rules.map pR.enc)),.fz (pN known),.fz (pN n),.fz (pN k)] =
   Z (.nx [.fz b.enc,.fz (pN held),.fz (pN word),.fz sl,.fz (.tup (b.rules.map pR.enc)),.fz (pN (known|||2^r.head)),.fz (pN n),.fz (pN k)]):=by
 have hm:=bV hr;have B:=(ok.hd r hm).2;have j:=(ok.bd r hm).2;have hw:=ok.w60;have t:k<b.rules.length:=(ax.mp hr).1;delta Yv;ext;rw[a8 (b9 k)];ext;rw[a8 t];ext;rw[aI,hr];ext;rw[WK λk u=>by have:=j k u;lia];ext;rw[QfL,show(r.body.all λk=>known.testBit k)=Y from aX.mpr l];ext;rw[aI,hr];ext
theorem QfN{b:Bk}(ok:b.Ok){held word:Nat}{sl:PV}:∀(K:List Nat)(n known:Nat)(s6 s7:Slot),Av b (λx=>known.testBit x=Y) K ->
  ∃l B D,pQ (ZQ 6 7) Yv (((oO K).zipIdx n).map λx=>.tup [pN x.2,x.1]) [.fz b.enc,.fz (pN held),.fz (pN word),.fz sl,.fz (.tup (b.rules.map pR.enc)),.fz (pN known),s6,s7] =
   Z (.nx [.fz b.enc,.fz (pN held),.fz (pN word),.fz sl,.fz (.tup (b.rules.map pR.enc)),.fz (pN l),B,D])/\∀x,l.testBit x=Y↔known.testBit x=Y\/∃k∈K,QP b k=x
 |[],n,known,s6,s7,_=>⟨known,s6,s7,rfl,λx=>by simp⟩
 |k::K,n,known,s6,s7,h=>by
  obtain⟨r,hr,j,h2⟩:=h;have e:=R9 ok (held:=held) (word:=word) (n:=n) (sl:=sl) hr j;obtain⟨l,u,t,e2,g⟩:=QfN ok (held:=held) (word:=word) (sl:=sl) K (n+1) (known|||2^r.head) (.fz (pN n)) (.fz (pN k)) (by
   have:(λx=>(known|||2^r.head).testBit x=Y)=(λx=>known.testBit x=Y\/x=r.head):=by funext x;rw[Qu,dQ,bM];exact propext (or_congr Iff.rfl eq_comm)
   rw[this];exact h2)
  have E:QP b k=r.head:=by delta QP;simp[hr]
  refine⟨l,u,t,?_,λx=>?_⟩
  .show pQ (ZQ 6 7) Yv (.tup [pN n,pN k]::((oO K).zipIdx (n+1)).map λx=>.tup [pN x.2,x.1]) _=_;rw[Tv (γ1:=[.fz b.enc,.fz (pN held),.fz (pN word),.fz sl,.fz (.tup (b.rules.map pR.enc)),.fz (pN known),.fz (pN n),.fz (pN k)]) rfl e];exact e2
  .rw[g x,Qu];simp[E];exact or_assoc
def Gj{b:Bk}(ok:b.Ok){held word:Nat}{K:List Nat}(hw:word<=60)(l:K.length<=100)(h:Av b (λx=>held.testBit x=Y) K)(he:held.testBit word=Y\/∃k∈K,QP b k=word):XF [b.enc,pN held,pN word,.tup (oO K)]=Z .non:=by
 obtain⟨j,s6,s7,e,g⟩:=QfN ok (held:=held) (word:=word) (sl := .tup (oO K)) K 0 held .un .un h;have t:=cN word;rw[<-g word]at he;delta XF;ext;rw[e];ext;rw[YB,he];ext
set_option tactic.hygienic true in
def Sa{b:Bk}{held:Nat}{steps:List Nat}{known:Nat}(w:rE b held steps known):(steps.map (QP b)).Nodup/\∀k∈steps,held.testBit (QP b k)=U/\known.testBit (QP b k)=Y:=by
 induction w with
 |nil=>exact⟨by simp,by simp⟩
 |snoc B hr E l j =>
  rename_i st H i r;have t:QP b i=r.head:=by delta QP;simp[hr]
  refine⟨?_,λk u=>?_⟩
  .rw[bw,dL];refine⟨j.1,by simp,λx D y hy=>?_⟩;obtain⟨k,u,rfl⟩:=aO.mp D;simp at hy;intro z;have:=(j.2 k u).2;rw[z,hy,t,l]at this;cases this
  .rcases aS.mp u with z | z
   .refine⟨(j.2 k z).1,?_⟩;rw[Qu,(j.2 k z).2];rfl
   .obtain rfl:=am.mp z;refine⟨?_,by rw[t,Qu];simp⟩;rw[t];cases hz:held.testBit r.head with
    |false=>rfl
    |true=>rw[B.sub _ hz]at l;cases l
def Bq{α:Type}[BEq α][LawfulBEq α]:∀{xs:List α},xs.Nodup->o5 xs=xs:=by
 intro xs;induction xs with
 |nil =>
  intro _;exact rfl
 |cons x xs j =>
  intro h;rw[bL]at h;show x::(o5 xs).filter (λy => !(y==x))=_;rw[j h.2,je.mpr λy hy=>by
   have:y≠x:=λz=>h.1 (z▸hy);simp[this]]
def Qnn{ns:List Nat}(h:ns.Nodup):(ur ns).length=ns.length:=by
 rw[WO,Bq,ag];delta List.Nodup;rw[fD];exact List.Pairwise.imp (λj z=>j (Int.ofNat.inj z)) h
def Gk{a b:List Str}(h:a.Perm b):QA a=QA b:=M1 ((Qj a).trans h) (Ox a)
def Qmi{R:List Rw}{M:List Str}(G:Gd R M):(qM (GN (sM R)) (vq R)).Nodup:=by
 delta qM;refine fD.mpr (List.Pairwise.filterMap _ (λx y j p l q hq e=>?_) G.pw);cases x with
 |g a b=>cases l
 |r h b =>
  cases y with
  |g a b=>cases hq
  |r k c =>
   cases l;cases hq;have e1:=congrArg l9 e;have e2:=congrArg Prod.snd e;exact j ⟨e1,Gk ((YQ _ b).symm.trans (by have e2:sT _ b=sT _ c:=e2;rw[e2];exact YQ _ c))⟩
def Br{x y:Rw}(l:x.Ok)(hy:y.Ok)(e:x.line=y.line):x=y:=by
 have h:=WA l 0;rw[e,WA hy 0]at h;have h:=bi h;cases x<;>cases y<;>simp[Rw.v]at h
 .rw[h.1,h.2]
 .obtain⟨h1,h2⟩:=h;rw[h1,List.map_inj_right (λa b z=>PV.str.inj z) |>.mp h2]
def MH{R:List Rw}{M:List Str}(G:Gd R M){i j:Nat}(l:i<(oV R).rules.length)(B:j<(oV R).rules.length)(e:tq R i=tq R j):i=j:=by
 rw[A6]at l B;delta tq at e;rw[aG l,aG B]at e;have z:=Br (Mj G (bu l)).1 (Mj G (bu B)).1 e;have z:(qM (GN (sM R)) (vq R))[i]=(qM (GN (sM R)) (vq R))[j]:=by
  injection z with t u
  exact Prod.ext t u
 exact(n5 (Qmi G)).mp z
def vb(R:List Rw):List Str:=(ai (oV R).rules.length).map (tq R)
def Qie{R:List Rw}{M:List Str}(G:Gd R M){k:Nat}(h:k<(oV R).rules.length):tq R k∈vb R/\(vb R).idxOf (tq R k)=k:=by
 have nd:(vb R).Nodup:=by
  delta vb;refine fD.mpr (List.Pairwise.imp_of_mem (λt u j z=>?_) (List.nodup_range (n:=(oV R).rules.length)));exact j (MH G (aR.mp t) (aR.mp u) z)
 have l:k<(vb R).length:=by delta vb;rw[ag,ao];exact h
 have e:(vb R)[k]=tq R k:=by
  have:(vb R)[k]?=Z (tq R k):=by delta vb;rw[aI,dr h];rfl
  rw[aG l]at this;exact bi this
 exact⟨e▸bu l,e▸nd.idxOf_getElem k l⟩
def Qmg{N:List Str}{w:Str}(h:w∈N):Pp (.lst (N.map .str)) [.str w]=Z (pN (N.idxOf w)):=by
 show(match strs? (N.map PV.str) with
  |some ns=>if w∈ns then Z (PV.int (ns.idxOf w:Nat)) else O
  |none=>O)=_
 rw[strs?_map];exact aw h
def QlP{R:List Rw}{M:List Str}(G:Gd R M):YX (oY 0) Qw (Qb QQ (Qa (nP 1) (Qa (nP 0) oK))) [.un,.fz (.tup ((oZ R).map .str))] ((oV R).rules.map pR.enc)=Z ((vb R).map .str):=by
 have e:(oV R).rules.map pR.enc=(ai (oV R).rules.length).map λk=>((oV R).rules.map pR.enc).getD k .non:=by
  refine fM (by simp) λi h1 h2=>?_;have j:i<(oV R).rules.length:=by simpa using h1
  simp[j]
 rw[e,Qk (λk=>((oV R).rules.map pR.enc).getD k .non) (λk=>PV.str (tq R k)) _ λk l=>⟨_,rfl,by
  obtain⟨v,e1,e2,_⟩:=X1 G (aR.mp l);rw[show((oV R).rules.map pR.enc).getD k .non=v by rw[d8,e1];rfl];ext;rw[e2]⟩]
 delta vb;rw[aB];rfl
local macro_rules|`(tactic| walk_at "ev")=>`(tactic| try simp (disch:=fail"e") only[Hg,uo])
def Sb{b:Bk}{W:List Nat}{k:Nat}{r:pR}{s0 s2 s3 s4 s5 s6:Slot}(hr:b.rules[k]?=Z r)(l:r.head∈W)(B:W.length<=50000)(D:r.body.length<=1000):YW [s0,.fz b.enc,s2,s3,s4,s5,s6,.ow (oO W),.fz (pN k)]=Z (.nx [s0,.fz b.enc,s2,s3,s4,s5,s6,.ow (oO (W++r.body)),.fz (pN k)]):=by
 delta YW;ext;rw[aI,hr];ext;rw[a8 l];ext;rw[aI,hr];ext;rw[Wg,tf];rfl
def Bs{b:Bk}(ok:b.Ok){word held:Nat}{K:List Nat}(h:vn b held word K){s0 s2 s3 s4 s5 s6:Slot} :
  ∃l,pQ (oY 8) YW (oO K.reverse) [s0,.fz b.enc,s2,s3,s4,s5,s6,.ow (oO [word]),.un]=Z (.nx l)/\∃zx B,l=[s0,.fz b.enc,s2,s3,s4,s5,s6,zx,B]:=by
 have I:=h.len;have r40:=ok.r40;obtain⟨l,e,W,B,rfl,_⟩:=QW (g:=oY 8) (b:=YW) pN (λpre J=>∃(W:List Nat)(B:Slot),J=[s0,.fz b.enc,s2,s3,s4,s5,s6,.ow (oO W),B]/\(∀x,(x=word\/∃j∈pre,x∈Hi b j)->x∈W)/\W.length<=1+1000*pre.length) K.reverse K.reverse [] [s0,.fz b.enc,s2,s3,s4,s5,s6,.ow (oO [word]),.un] rfl ⟨[word],_,rfl,λx t=>by simpa using t,by simp⟩ (λpre k post J e T=>by
  obtain⟨W,B,u,h1,h2⟩:=T;subst u;have zw:=congrArg dt e;simp at zw;have L:K=post.reverse++k::pre.reverse:=by
   have:=congrArg List.reverse e;rw[i3]at this;rw[<-this];simp
  have M:k<b.rules.length:=h.lt k (by rw[L];simp);have hr:b.rules[k]?=Z b.rules[k]:=aG M;have zy:QP b k=b.rules[k].head:=by delta QP;simp[hr]
  have eb:Hi b k=b.rules[k].body:=by delta Hi;simp[hr]
  have D:b.rules[k].head∈W:=h1 _ (by
   rw[<-zy];rcases h.later _ _ _ L with z|⟨j,E,z⟩
   .exact .inl z
   .exact .inr ⟨j,by simpa using E,z⟩)
  have H:=Ay ok (bu M);refine⟨_,_,rfl,Sb hr D (by lia) H,W++b.rules[k].body,_,rfl,λx t=>?_,by simp;lia⟩;rcases t with z|⟨j,E,z⟩
  .exact c9 _ (h1 x (.inl z))
  .rcases aS.mp E with q | q
   .exact c9 _ (h1 x (.inr ⟨j,q,z⟩))
   .rw[am.mp q,eb]at z;exact bx _ z)
 exact⟨_,e,_,_,rfl⟩
def Ht:∀s∈(["yes","no"]:List Str),aA s=Y:=by decide+kernel
set_option tactic.hygienic true in
def Bt{R:List Rw}{M:List Str}(G:Gd R M){held w:Nat}{rs:List Str}(hw:w<(oV R).words)(h:A7 R held w rs):Xv [.tup ((oZ R).map .str),(oV R).enc,pN held,pN w,.lst (rs.map .str)]=Z (.bl Y):=by
 have ok:=Yb G;have E:w<30:=by have:=YE G;have:(oV R).words=(oZ R).length:=rfl;lia
 have t:2^w<2^100:=Nat.pow_lt_pow_right (by decide) (by lia);have r40:=ok.r40;have tl:(vb R).length=(oV R).rules.length:=by delta vb;rw[ag,ao]
 delta Xv;ext;rw[T3 ok];ext;rw[uW (cN w) t];ext;rw[Qlw];cases h with
 |no h =>
  rw[h];ext;rw[show PV.lst [.str "no"] = .lst ((["no"]:List Str).map .str) from rfl,Np λs hs=>Ht s (by simp at hs;simp[hs])];rfl
 |yes h l =>
  rename_i K;have u:=l.len;have B:∀s∈vb R,aA s=Y:=λs hs=>by
   obtain⟨k,j,rfl⟩:=aO.mp hs;exact(X1 G (aR.mp j)).choose_spec.2.2
  rw[h];ext;rw[QlP G];ext;rw[R0 (Ht _ (by simp))];ext;have D:(PV.str "yes"::(K.map (tq R)).map PV.str).drop 1=K.map λk=>PV.str (tq R k):=by rw[kW,kv,aB];rfl
  rw[Xi,D,qB (by rw[ag];lia),Xt (λk=>PV.str (tq R k)) (λ_=>U) (λk=>PV.str (tq R k)) K λk j=>⟨_,rfl,by
   have hm:=(Qie G (l.lt k j)).1;ext;rw[Wh (B _ hm) B,Us hm];rfl,λz=>nomatch z⟩,show K.filter (λ_=>U)=[] by simp]
  ext;rw[Xi,D,qB (by rw[ag];lia),Qk (λk=>PV.str (tq R k)) pN K λk j=>⟨_,rfl,by
   obtain⟨h1,h2⟩:=Qie G (l.lt k j);ext;rw[Qmg h1,h2]⟩,show K.map pN=oO K from rfl]
  ext;rw[Gj ok (by lia) (by lia) l.runs l.ends];ext;rw[WP,show [pN w]=oO [w] from rfl];obtain⟨H,I,zy,T,rfl⟩:=Bs ok l (s0 := .fz (.tup ((oZ R).map .str))) (s2 := .fz (pN held)) (s3 := .fz (pN w)) (s4 := .fz (.lst (PV.str "yes"::(K.map (tq R)).map PV.str))) (s5 := .ow ((vb R).map .str)) (s6 := .fz (.lst (oO K)));rw[I];ext;rw[Tz (QP (oV R)) K λk j=>⟨_,rfl,by
   have j:=l.lt k j;have hr:(oV R).rules[k]?=Z (oV R).rules[k]:=aG j;ext;rw[aI,hr];ext;delta QP;simp[hr]⟩]
  ext;obtain⟨steps,known,J,L⟩:=l.sub;rw[Qmf (by rw[ag];lia),Qnn ((L.map (QP (oV R))).nodup (Sa J).1),ag];ext
  try rw[bW]
  try rfl
def Y6(R:List Rw)(m:Nat):List Str:=(ai (oV R).banes.length).map λg=>pJ (oZ R) g++" "++FU (rz (oV R) (m+1) g)
def rk1{s:Str}(hs:rh s){p:PV}(l:p = .non\/∃n,n<=8/\p=pN n){rs:List Str}(B:rs.length<=100){s0 s1:Slot}:ZZ [s0,s1,.ow (rs.map .str),.fz (.str s),.fz p]=Z (.nx [s0,s1,.ow ((rs++[s++" "++FU p]).map .str),.fz (.str s),.fz p]):=by
 have l1:(" ":Str).length=1:=rfl;have l2:(" -":Str).length=2:=rfl;have j:=Qm s " ";have:=hs.1;delta ZZ;rcases l with rfl|⟨n,t,rfl⟩
 .ext;rw[Zj (by rw[ag];lia) rfl,bw];rw[show s++" "++FU .non=s++" -" from sx (by simp only[Qq,bX];rfl)];rfl
 .have h9:((jj (n:Int):String):Str).length<=2:=(Ml ⟨n,by lia⟩).1;ext;rw[show vL [pN n]=Z (.str (jj (n:Int):String)) from aw (show((n:Int)).natAbs<1000000 by lia)];ext;rw[Zj (by rw[ag];lia) rfl,bw];rfl
def Bu{R:List Rw}{M:List Str}(G:Gd R M){m:Nat}(hm:m<=8)(D:QS [(oV R).enc]=Z (.tup [pN (it (oV R) m),.tup ((ai (oV R).banes.length).map (rz (oV R) (m+1)))])):Zu [.tup ((oZ R).map .str),(oV R).enc]=Z (.lst ((Y6 R m).map .str)):=by
 have ok:=Yb G;have T:=ok.g8;have l:(oV R).banes.length<=(oZ R).length:=ok.gw;have E:lA (λx y=>PV.tup [x,y]) ((oZ R).map PV.str) ((ai (oV R).banes.length).map (rz (oV R) (m+1)))=(ai (oV R).banes.length).map λg=>PV.tup [.str (pJ (oZ R) g),rz (oV R) (m+1) g]:=by
  refine fM (by simp;lia) λi h1 h2=>?_;have h3:i<(oZ R).length:=by simp at h2;lia
  simp[pJ,h3]
 delta Zu;ext;rw[D];ext;rw[show Tc [.tup ((oZ R).map PV.str),.tup ((ai (oV R).banes.length).map (rz (oV R) (m+1)))]=Z (lA (λx y=>PV.tup [x,y]) ((oZ R).map PV.str) ((ai (oV R).banes.length).map (rz (oV R) (m+1)))) from rfl,E];ext;obtain⟨H,I,t,j,rfl⟩:=QW (g:=ZQ 3 4) (b:=ZZ) (λg=>PV.tup [.str (pJ (oZ R) g),rz (oV R) (m+1) g]) (λpre B=>∃t j:Slot,B=[.fz (.tup ((oZ R).map .str)),.fz (oV R).enc,.ow ((pre.map λg=>pJ (oZ R) g++" "++FU (rz (oV R) (m+1) g)).map .str),t,j]) (ai (oV R).banes.length) (ai (oV R).banes.length) [] [.fz (.tup ((oZ R).map .str)),.fz (oV R).enc,.ow [],.un,.un] rfl ⟨_,_,rfl⟩ (λpre g post B e J=>by
  obtain⟨t,j,u⟩:=J;subst u;have L:=congrArg dt e;simp at L;have zy:g<(oV R).banes.length:=aR.mp (by rw[<-e];simp);exact⟨_,_,rfl,rk1 (wg G _ (Qt (aF zy l))) (X2 hm) (by simp;lia),.fz (.str (pJ (oZ R) g)),.fz (rz (oV R) (m+1) g),by rw[bw (l₁:=pre)];rfl⟩)
 rw[I];ext;rfl
def Sc{R:List Rw}{M:List Str}(G:Gd R M){m:Nat}(hm:m<=8):∀s∈Y6 R m,aA s=Y:=λs hs=>by
 obtain⟨g,j,rfl⟩:=aO.mp hs;have ok:=Yb G;have l:(oV R).banes.length<=(oZ R).length:=ok.gw;have j:=aR.mp j;refine Nb (Nb (wg G _ (Qt (aF j l))).2 (by decide+kernel)) ?_;rcases X2 (b:=oV R) (g:=g) hm with e|⟨n,t,e⟩
 .rw[e];decide+kernel
 .rw[e];exact(Ml ⟨n,by lia⟩).2
def Bv{R:List Rw}(ok:∀x∈R,x.Ok)(l:R.length<=60):Yt [.str (aL nl (R.map Rw.line))]=Z (.lst (R.map λx=>.str x.line)):=by
 have tl:=Qig ok l;delta Yt;cases R with
 |nil =>
  rw[fr,XX];ext;rw[R3 (R8 _ (by simp))];ext
  try rfl
 |cons x R =>
  have t:=Qif (w:=x.line) (ws:=R.map Rw.line) (Rs (ok x (by simp))).1;have j:=Qcj (w:=x.line) (ws:=R.map Rw.line) (λs hs=>by
   obtain⟨y,hy,rfl⟩:=aO.mp (show s∈(x::R).map Rw.line from hs);exact Qlc (ok y hy)) tl
  have to:aA (aL nl ((x::R).map Rw.line))=Y:=Rf _ (by decide+kernel) _ λs hs=>by
   obtain⟨y,hy,rfl⟩:=aO.mp hs;exact X0 (ok y hy)
  rw[aT]at tl to |-;generalize aL nl (x.line::R.map Rw.line)=T at *;ext;rw[Xo to (R8 _ (by simp)),show(T=="")=U from bc.mpr λz=>by
   rw[z,show("":Str).length=0 from rfl]at t;lia]
  ext;rw[j];ext;simp
def Hu{L y:Str}{c d:Nat}{l k:List Nat}(D:L.cps.toList=c::l)(hy:y.cps.toList=d::k)(B:c≠d):gH L y=U:=by
 have j:y.length=k.length+1:=by rw[<-ZI y,hy];rfl
 delta gH;rw[kL,D,hy,j,gs,mD];simp[B]
def Gm(x:Str)(ps:List Str){c:Nat}{l:List Nat}(h:x.cps.toList=c::l):∃B,(aL sp (x::ps)).cps.toList=c::B:=by
 cases ps with
 |nil=>rw[QF];exact⟨l,h⟩
 |cons y ps=>rw[Ql,Qq,Qq,h];exact⟨_,rfl⟩
def Qr:List Str:=["lot","why","flaw","ranks","camps","book"]
def Nq:∀x∈Qr,(match x.cps.toList with | c::_=>decide (c≠116/\c≠100) | []=>U)=Y/\Bb x=Y/\x.length<=5:=by decide+kernel
def MI{s:Str}(h:Wd s):Me s=Y:=by
 delta Me;rw[show no3.any (·==s)=U from eQ.mpr λz hz e=>h.no (by rw[<-a9.mp e];exact hz)];simp[h.l1,h.l2];delta RN;rw[aX];intro c hc;have:=h.low c hc;simp;omega
def Sd:Wd "by":=Be ⟨by decide,by decide,F7 (by decide+kernel)⟩ (by decide+kernel)
def Se(C:Nat->Addr)(I:tT C){R:List Rw}{M:List Str}(G:Gd R M){x:Str}{ps:List Str}(L:x∈Qr)(B:∀s∈ps,Wd s)(zy:ps.length<=12)(hf:Xl x ps=Y)(zx:∀s∈QK x ps++QB x ps,s∈oZ R)(T:∀s∈QB x ps,(oZ R).idxOf s<(oV R).banes.length) :
  ∃rs,Yc C [pM C R,.str (aL sp (x::ps))]=Z (.lst (rs.map .str))/\va R (Qy ((QB x ps).map (oZ R).idxOf)) ((oZ R).idxOf ((QK x ps).headD "")) x rs:=by
 obtain⟨j,E,v3⟩:=Nq x L;have u:=F7 E;cases t:x.cps.toList with
 |nil=>rw[t]at j;cases j
 |cons c l =>
  rw[t]at j;have j:=bD j;obtain⟨H,D⟩:=Gm x ps t;have hs:=TV x ps λs hs=>by
   rcases ap.mp hs with rfl | z
   .intro z;have:=u 32 z;lia
   .exact Bn (B s z)
  have J:tU (x::ps):=λs hs=>by
   rcases ap.mp hs with rfl | z
   .exact⟨λc hc=>by have:=u c hc;lia,by lia⟩
   .exact⟨λc hc=>by have:=(B s z).low c hc;lia,by have:=(B s z).l2;lia⟩
  have zw:(aL sp (x::ps)).length<=900:=by
   rw[Qv];have:=Xg ps 12 λs hs=>(B s hs).l2;simp only[aT,ig,aU,show(sp:Str).length=1 from rfl];lia
  refine RW C I G hs J (by lia) zw (Hu D (l:=H) (d:=116) (k:=[101,108,108,32]) (by decide+kernel) j.1) (Hu D (d:=100) (k:=[114,111,112,32]) (by decide+kernel) j.2) ?_ (aX.mpr λs hs=>Us (zx s hs)) (aX.mpr λs hs=>a8 (T s hs));delta Nm;rw[hf,fU,eR,aX];exact λs hs=>MI (B s hs)
def Gn(x:Str)(ws:List Str):x++aL "" (ws.map λw=>" "++w)=aL sp (x::ws):=by
 have j:("":Str).cps.toList=[]:=by decide+kernel
 induction ws generalizing x with
 |nil=>rw[fr,XX,QF];exact sx (by rw[Qq,j,bB])
 |cons w ws l =>
  rw[Ql,<-l w];cases ws with
  |nil=>simp only[aT,fr,QF,XX];exact sx (by simp only[Qq,bX,j,bB];rfl)
  |cons v vs=>rw[aT,aT,Ql];exact sx (by simp only[Qq,bX,j,iU];rfl)
def Bw:∀(n:Nat)(xs:List Nat),xs.length=n->xs.Pairwise (· < ·)->(xs.map λk=>2^k).sum=Qy xs:=by
 intro n;induction n with
 |zero =>
  intro xs e _;rw[b4.mp e];rfl
 |succ n j =>
  intro xs e h;have l:xs≠[]:=λz=>by rw[z]at e;cases e
  have e1:=List.dropLast_concat_getLast l;rw[<-e1,eM]at h;have t:=j xs.dropLast (by rw[List.length_dropLast];lia) h.1;rw[<-e1,QiF _ _ λi u=>h.2.2 i u _ (by simp),bw,oq,t];simp
def Bx(row:List Nat):((ur row).map λk=>2^k).sum=Qy row:=by
 rw[Bw _ _ rfl (LU row)];refine bK λi=>?_;rw[QG,QG,cf,bM,bM,Qla]
def By:List Str:=["lot","why","why","flaw","camps","lot","ranks","book"]
def vx:∀kind:_root_.Fin 8,By.getD kind ""∈Qr/\(["flaw","camps"]:List Str).any (·==By.getD kind "")=decide (kind.val=3\/kind.val=4)/\(["lot","why"]:List Str).any (·==By.getD kind "")=decide (kind.val<=2\/kind.val=5)/\(By.getD kind ""=="why")=decide (kind.val=1\/kind.val=2)/\(By.getD kind ""=="lot")=decide (kind.val=0\/kind.val=5)/\(["ranks","book"]:List Str).any (·==By.getD kind "")=decide (6<=kind.val):=by decide+kernel
def Bz(C:Nat->Addr)(R:List Rw):JW (C 5) "ask" (pM C R)=Y:=by
 delta pM JW;rw[aQ];exact⟨by simp,by decide+kernel⟩
def vY(C:Nat->Addr)(R:List Rw)(g:List PV->Option PV)(ps:List PV):Mb (C 5) "ask" g (Z ps) (pM C R)=g (pM C R::ps):=by
 delta Mb;rw[aw (Bz C R)];rfl
def MJ:∀x∈Qr,qK (.str x) (.tup [.str "flaw",.str "camps"])=Z (.bl ((["flaw","camps"]:List Str).any (·==x))):=λx j=>W5 λc hc=>by have:=F7 (Nq x j).2.1 c hc;lia
def BA:∀x∈Qr,qK (.str x) (.tup [.str "lot",.str "why"])=Z (.bl ((["lot","why"]:List Str).any (·==x))):=λx j=>AY λc hc=>by have:=F7 (Nq x j).2.1 c hc;omega
def vEq:∀x∈Qr,∀y∈Qr,pC (.str x) (.str y)=Z (.bl (x==y)):=λx j y hy=>Xo (BP (F7 (Nq x j).2.1)) (BP (F7 (Nq y hy).2.1))
def Go{R:List Rw}{M:List Str}(G:Gd R M){hs w:Nat}{x:Str}{rs:List Str}(A:va R hs w x rs):rs.length<=300:=by
 have ok:=Yb G;have l:=XD ok 0;have r40:=ok.r40;have t:=ok.g8;cases A with
 |lot e h =>
  cases h with
  |settled=>simp
  |sure=>have:=bf (λc=>(yl (oV R) c).testBit w) (pL (oV R) 0);simp[pU];lia
  |never=>simp
  |maybe=>simp
 |why h =>
  cases h with
  |yes h j=>have:=j.len;simp;lia
  |no=>simp
 |flaw h=>cases h<;>simp
 |ranks=>simp;lia
 |camps=>have:=XD ok hs;simp;lia
 |book=>have:=X4 G;simp;lia
local macro_rules|`(tactic| walk_at "ev")=>`(tactic| try simp (disch:=fail"e") only[qE,qj,qF,pK,AL,vY,uo])
section
def nW1(h:(["lot","why"]:List Str).any (·==x)=Y):QK x (a::ps)=[a]:=by delta QK;rw[aw h];rfl
def nW0(h:(["lot","why"]:List Str).any (·==x)=U):QK x ps=[]:=by delta QK;rw[h];rfl
def nGw{x:Str}{ps:List Str}(h:(x=="why")=Y):QB x ps=ps.drop 2:=by delta QB;rw[aw h]
def nG1{x:Str}{ps:List Str}(h:(x=="why")=U)(h2:(["flaw","camps"]:List Str).any (·==x)=Y):QB x ps=ps:=by delta QB;rw[h,h2];rfl
def nG0{x:Str}{ps:List Str}(h:(x=="why")=U)(h2:(["flaw","camps"]:List Str).any (·==x)=U):QB x ps=[]:=by delta QB;rw[h,h2];rfl
def hFw{x:Str}{ps:List Str}(h:(x=="why")=Y)(h2:ps.length=1\/2<ps.length/\ps.getD 1 "" = "by"):Xl x ps=Y:=by
 delta Xl;rw[aw h];rcases h2 with h2|⟨h2,h3⟩
 .simp[h2]
 .rw[h3];simp[h2]
def hFl{x:Str}{a:Str}(h:(x=="why")=U)(h1:(x=="lot")=Y):Xl x [a]=Y:=by delta Xl;rw[h,h1];rfl
def hFr{x:Str}(h:(x=="why")=U)(h1:(x=="lot")=U)(h2:(["ranks","book"]:List Str).any (·==x)=Y):Xl x []=Y:=by delta Xl;rw[h,h1,h2];rfl
def hFf{x:Str}{ps:List Str}(h:(x=="why")=U)(h1:(x=="lot")=U)(h2:(["ranks","book"]:List Str).any (·==x)=U)(h3:(["flaw","camps"]:List Str).any (·==x)=Y):Xl x ps=Y:=by delta Xl;rw[h,h1,h2,h3];rfl
end
def Y7:pW:=(oM (ph (rS (qb (pE (uc Ov (nP 10)))) (oQ (oJ t5 (Qb o9 (Qa (o6 (Qo (pG (nP 10)) 1 [] (oY 0) (qb (pE (uc Ou (nP 0)))) (nP 0))) oK)) (mN 0)))) (oR (mC (.bl U))) pr)
 (oM (ph (oQ (oJ pC (nP 8) (mC (.str "ranks")))) (oR (oJ pC (nP 10) (Qb Zu (Qa (nP 0) (Qa (nP 1) oK))))) pr)
 (oM (ph (oQ (oJ pC (nP 8) (mC (.str "book")))) (oR (oJ pC (nP 10) (Qb Yt (Qa (Qb Zf (Qa (nP 0) (Qa (nP 1) oK))) oK)))) pr)
 (oM (ph (oQ (oJ pC (nP 8) (mC (.str "camps")))) (oR (oJ pC (nP 10) (o6 (Qo (qO (Qb Xz (Qa (nP 1) (Qa (nP 7) oK)))) 1 [0] (oY 0) Qw (Qb QC (Qa (nP 1) (Qa (nP 0) oK))))))) pr)
 (oM (ph (oQ (oJ pC (Qb o9 (Qa (nP 10) oK)) (mN 0))) (oR (mC (.bl U))) pr)
 (oM (ph (oQ (oJ pC (nP 8) (mC (.str "lot")))) (oR (Qb Xw (Qa (nP 0) (Qa (nP 1) (Qa (nP 4) (Qa (nP 10) oK)))))) pr)
 (oM (ph (oQ (oJ pC (nP 8) (mC (.str "flaw")))) (oR (Qb Zy (Qa (nP 0) (Qa (nP 1) (Qa (nP 7) (Qa (nP 10) oK)))))) pr)
 (oM (ph (oQ (oJ pC (nP 3) (mN 1))) (oW [] 7 (mN 0)) pr)
 (oR (Qb Xv (Qa (nP 0) (Qa (nP 1) (Qa (nP 7) (Qa (nP 4) (Qa (nP 10) oK)))))))))))))))
set_option tactic.hygienic true in
def Gq(C:Nat->Addr){R:List Rw}{M:List Str}(G:Gd R M){kind w:Nat}{row:List Nat}(hr:∀i∈row,i<(oV R).banes.length){T x L:Str}{rs:List Str}{hs:Nat}(A:va R hs w x rs)(I:(["flaw","camps"]:List Str).any (·==x)=Y->hs=Qy row)(l:(x=="why")=Y->hs=if kind=1 then 0 else Qy row)(B:(["lot","why"]:List Str).any (·==x)=Y->w<(oV R).words) :
  (Y7 [.fz (.tup ((oZ R).map .str)),.fz (oV R).enc,.fz (pM C R),.fz (pN kind),.fz (pN w),.fz (.lst (oO row)),.fz (.str T),.fz (pN (Qy row)),.fz (.str x),.fz (.str L),.fz (.lst (rs.map .str))]).bind rm=Z (.bl Y):=by
 have ok:=Yb G;have J:=YE G;have j:(oV R).banes.length<=(oZ R).length:=ok.gw;have D:=Uq hr;have H:∀rs:List Str,YX (oY 0) (qb (pE (uc Ou (nP 0)))) (nP 0) [.un] (rs.map .str)=Z []:=λrs=>by
  rw[Xt PV.str (λ_=>U) PV.str rs λs hs=>⟨_,rfl,rfl,λz=>nomatch z⟩];simp
 delta Y7;have zw:=Go G A;ext;rw[H];ext;have E (a b:Str) (u:a∈Qr) (zx:b∈Qr) (h:(a==b)=U):pC (.str a) (.str b)=Z (.bl U):=by rw[vEq a u b zx,h]
 have t (a:Str) (u:a∈Qr):pC (.str a) (.str a)=Z (.bl Y):=by rw[vEq a u a u,bW]
 cases A with
 |ranks hm e =>
  rw[t _ (by simp[Qr])];ext;rw[Bu G hm e];ext;rename_i m;rw[show((ai (oV R).banes.length).map λg=>pJ (oZ R) g++" "++FU (rz (oV R) (m+1) g))=Y6 R m from rfl,Np (Sc G hm)];rfl
 |book =>
  rw[E _ _ (by simp[Qr]) (by simp[Qr]) (by decide+kernel)];ext;rw[t _ (by simp[Qr])];ext;rw[Ho G];ext;rw[Bv (X3 G) (by have:=X4 G;lia)];ext;rw[show((BS R).map λx=>PV.str x.line)=((BS R).map Rw.line).map PV.str by rw[aB];rfl,Np λs hs=>by
   obtain⟨y,hy,rfl⟩:=aO.mp hs;exact X0 (X3 G y hy)]
  rfl
 |camps =>
  obtain rfl:=I (by decide+kernel);rw[E _ _ (by simp[Qr]) (by simp[Qr]) (by decide+kernel)];ext;rw[E _ _ (by simp[Qr]) (by simp[Qr]) (by decide+kernel)];ext;rw[t _ (by simp[Qr])];ext;rw[Ud ok];have zy:=XD ok (Qy row);ext;rw[G8 (λc=>PV.str (pY (oZ R) c)) (pL (oV R) (Qy row)) λc hc=>⟨_,rfl,by
   ext;rw[XC J (wg G) (Mh j (ZG hc))]⟩]
  ext;rw[show((pL (oV R) (Qy row)).map λc=>PV.str (pY (oZ R) c))=((pL (oV R) (Qy row)).map (pY (oZ R))).map PV.str by rw[aB];rfl,Np λs hs=>by
   obtain⟨c,hc,rfl⟩:=aO.mp hs;exact AV (wg G) (Mh j (ZG hc))]
  rfl
 |lot e h =>
  rw[E _ _ (by simp[Qr]) (by simp[Qr]) (by decide+kernel)];ext;rw[E _ _ (by simp[Qr]) (by simp[Qr]) (by decide+kernel)];ext;rw[E _ _ (by simp[Qr]) (by simp[Qr]) (by decide+kernel)];ext;rw[show(rs.length==0)=U by cases h<;>rfl];ext;rw[t _ (by simp[Qr])];ext;rw[MF G e (B (by decide+kernel)) h];rfl
 |flaw h =>
  obtain rfl:=I (by decide+kernel);rw[E _ _ (by simp[Qr]) (by simp[Qr]) (by decide+kernel)];ext;rw[E _ _ (by simp[Qr]) (by simp[Qr]) (by decide+kernel)];ext;rw[E _ _ (by simp[Qr]) (by simp[Qr]) (by decide+kernel)];ext;rw[show(rs.length==0)=U by cases h<;>rfl];ext;rw[E _ _ (by simp[Qr]) (by simp[Qr]) (by decide+kernel)];ext;rw[t _ (by simp[Qr])];ext;rw[Gi G D h];rfl
 |why h =>
  have l:=l (by decide+kernel);rw[E _ _ (by simp[Qr]) (by simp[Qr]) (by decide+kernel)];ext;rw[E _ _ (by simp[Qr]) (by simp[Qr]) (by decide+kernel)];ext;rw[E _ _ (by simp[Qr]) (by simp[Qr]) (by decide+kernel)];ext;rw[show(rs.length==0)=U by cases h<;>rfl];ext;rw[E _ _ (by simp[Qr]) (by simp[Qr]) (by decide+kernel)];ext;rw[E _ _ (by simp[Qr]) (by simp[Qr]) (by decide+kernel)];ext;by_cases k1:kind=1
  .rw[aw k1]at l;subst l;rw[show(kind==1)=Y by simp[k1]];ext;rw[Bt G (B (by decide+kernel)) h];rfl
  .rw[aN k1]at l;subst l;rw[show(kind==1)=U by simp[k1]];ext;rw[Bt G (B (by decide+kernel)) h];rfl
def QiL(C:Nat->Addr)(h4:tT C){R:List Rw}{M:List Str}(G:Gd R M){kind w:Nat}{row:List Nat}(hk:kind<8)(hr:∀i∈row,i<(oV R).banes.length)(av:row.length<=9)(hw:w<(oZ R).length\/kind=6\/kind=7) :
  QM C [.tup ((oZ R).map .str),(oV R).enc,pM C R,pN kind,pN w,.lst (oO row)]=Z (.bl Y):=by
 have ok:=Yb G;have I:=RQ G;have zw:=Ul G;have hl:=YE G;have h8:=ok.g8;have az:(oV R).banes.length<=(oZ R).length:=ok.gw;have l:∀i∈row,i<(oZ R).length:=λi t=>aF (hr i t) az;have zy:∀s∈row.map (pJ (oZ R)),s∈oZ R/\(oZ R).idxOf s<(oV R).banes.length/\Wd s:=λs hs=>by
  obtain⟨i,t,rfl⟩:=aO.mp hs;exact⟨Qt (l i t),by rw[MD zw (l i t)];exact hr i t,I _ (Qt (l i t))⟩
 have hM:(row.map (pJ (oZ R))).map (oZ R).idxOf=row:=by
  rw[aB];exact(dX λi t=>MD zw (l i t)).trans (mf _)
 have aZ:=Uq hr;have tl:((row.map λi=>(" ":Str)++pJ (oZ R) i).map cE).sum<=row.length*13:=by
  have:=Xg (row.map λi=>(" ":Str)++pJ (oZ R) i) 13 λs hs=>by
   obtain⟨i,t,rfl⟩:=aO.mp hs;have:=(I _ (Qt (l i t))).l2;rw[Qm,show(" ":Str).length=1 from rfl];omega
  rwa [ag]at this
 delta QM;ext;rw[G8 (λi=>PV.str (" "++pJ (oZ R) i)) row λi t=>⟨_,rfl,by
  have:=(I _ (Qt (l i t))).l2;have l1:(" ":Str).length=1:=rfl;ext;rw[rH (l i t)];ext⟩,show(row.map λi=>PV.str (" "++pJ (oZ R) i))=(row.map λi=>" "++pJ (oZ R) i).map PV.str by rw[aB];rfl]
 ext;rw[pJoin_s (by rw[show("":Str).length=0 from rfl,ag];omega)];ext;rw[Qjm (by omega)];have al:=QjW row;ext;rw[Tz (λi=>2^i) (ur row) λi t=>⟨_,rfl,by have:=hr i (Qla.mp t);ext⟩];ext;rw[Bx];have tj (x:Str):x++aL "" (row.map λi=>" "++pJ (oZ R) i)=aL sp (x::row.map (pJ (oZ R))):=by
  rw[<-Gn,aB];rfl
 have bv:(aL "" (row.map λi=>(" ":Str)++pJ (oZ R) i)).length<=200:=by
  rw[Qv,show("":Str).length=0 from rfl];omega
 generalize hT:aL "" (row.map λi=>(" ":Str)++pJ (oZ R) i)=T at *;generalize hq:oM (ph (rS (qb (pE (uc Ov (nP 10)))) _) _ _) _=aq;have hq:Y7=aq:=hq;subst hq;have fin:=λ(x L:Str)(rs:List Str)(hs:Nat)=>Gq C G hr (kind:=kind) (w:=w) (T:=T) (x:=x) (L:=L) (rs:=rs) (hs:=hs);have gl:(row.map (pJ (oZ R))).length<=9:=by rw[ag];exact av
 have ln (x n:Str):x++" "++n=aL sp [x,n]:=by rw[Ql,QF];rfl
 have ask (x:Str) (ps W Gs:List Str) (u:x∈Qr) (e1:QK x ps=W) (e2:QB x ps=Gs) (hp:∀s∈ps,Wd s) (hl:ps.length<=12) (hf:Xl x ps=Y) (hW:∀s∈W,s∈oZ R) (J:∀s∈Gs,s∈row.map (pJ (oZ R))):=by
  have z:=Se C h4 G (x:=x) (ps:=ps) u hp hl hf (by rw[e1,e2];intro s hs;rcases aS.mp hs with q | q;exact hW s q;exact(zy s (J s q)).1) (by rw[e2];exact λs hs=>(zy s (J s hs)).2.1);rw[e1,e2]at z;exact z
 have one (x:Str) (u:x∈Qr) (h:w<(oZ R).length) (e1:QK x [pJ (oZ R) w]=[pJ (oZ R) w]) (e2:QB x [pJ (oZ R) w]=[]) (hf:Xl x [pJ (oZ R) w]=Y):∃rs,Yc C [pM C R,.str (aL sp [x,pJ (oZ R) w])]=Z (.lst (rs.map .str))/\va R 0 w x rs:=by
  obtain⟨rs,e,A⟩:=ask x _ _ _ u e1 e2 (λs hs=>by rw[am.mp hs];exact I _ (Qt h)) (by simp) hf (λs hs=>by rw[am.mp hs];exact Qt h) (λs hs=>nomatch hs);refine⟨rs,e,?_⟩;rw[show(oZ R).idxOf ([pJ (oZ R) w].headD "")=w from MD zw h]at A;exact A
 have zx (x:Str) (u:x∈Qr) (e1:QK x (row.map (pJ (oZ R)))=[]) (e2:QB x (row.map (pJ (oZ R)))=row.map (pJ (oZ R))) (hf:Xl x (row.map (pJ (oZ R)))=Y):∃rs w',Yc C [pM C R,.str (aL sp (x::row.map (pJ (oZ R))))]=Z (.lst (rs.map .str))/\va R (Qy row) w' x rs:=by
  obtain⟨rs,e,A⟩:=ask x _ _ _ u e1 e2 (λs hs=>(zy s hs).2.2) (by omega) hf (λs hs=>nomatch hs) λs hs=>hs;rw[hM]at A;exact⟨rs,_,e,A⟩
 obtain⟨u,D,B,j,E,f5⟩:=vx ⟨kind,hk⟩;have ex:([.str "lot",.str "why",.str "why",.str "flaw",.str "camps",.str "lot",.str "ranks",.str "book"]:List PV)[kind]?=Z (.str (By.getD kind "")):=by
  show(By.map PV.str)[kind]?=_;rw[aI,aG (show kind<By.length from hk),d8,aG (show kind<By.length from hk)];rfl
 rw[ex];generalize aj:By.getD kind ""=x at *;clear aj ex;have lx:=(Nq x u).2.2;ext;rw[MJ x u,D];by_cases g1:kind=3\/kind=4
 .rw[a8 g1]at D |-;ext;rw[tj];ext;rw[a5 (show ¬(kind<=2\/kind=5) by omega)]at B;rw[a5 (show ¬(kind=1\/kind=2) by omega)]at j;rw[a5 (show ¬(kind=0\/kind=5) by omega)]at E;rw[a5 (show ¬(6<=kind) by omega)]at f5;rw[BA x u,B];ext;rw[show(kind==2)=U by rw[bc];omega];ext;obtain⟨rs,w',H,A⟩:=zx x u (nW0 B) (nG1 j D) (hFf j E f5 D);rw[H];ext;have A:va R (Qy row) w x rs:=by
   cases A with
   |lot e h=>exact absurd E (by decide+kernel)
   |why h=>exact absurd j (by decide+kernel)
   |flaw h=>exact .flaw h
   |ranks hm e=>exact .ranks hm e
   |camps=>exact .camps
   |book=>exact .book
  exact fin x _ rs _ A (λ_=>rfl) (λz=>by rw[j]at z;cases z) λz=>by rw[B]at z;cases z
 .rw[a5 g1]at D |-;ext;rw[BA x u,B];by_cases g2:kind<=2\/kind=5
  .have hw:w<(oZ R).length:=by omega
   have bz:=(I _ (Qt hw)).l2;have bq:=Qm x " ";have l1:(" ":Str).length=1:=rfl;rw[a8 g2]at B |-;ext;rw[rH hw];ext;rw[ln];rw[T7 (b:=decide (0<row.length)) (by ext)];have w_:(oZ R).idxOf ([pJ (oZ R) w].headD "")=w:=MD zw hw;cases c:(kind==2&&decide (0<row.length)) with
   |true =>
    have ck:kind=2:=a9.mp (i7.mp c).1;have cr:0<row.length:=bD (i7.mp c).2;have l3:(" by":Str).length=3:=rfl;have l4:(aL sp [x,pJ (oZ R) w]).length<=30:=by rw[<-ln,Qm];omega
    have l5:=Qm (aL sp [x,pJ (oZ R) w]) " by";have ak:aL sp [x,pJ (oZ R) w]++" by"++T=aL sp (x::pJ (oZ R) w::"by"::row.map (pJ (oZ R))):=by
     rw[Ql,QF,Ql,Ql,<-tj];refine sx ?_;simp only[Qq,bX];rfl
    rw[a8 (show kind=1\/kind=2 by omega)]at j;ext;rw[ak];ext;obtain⟨rs,H,A⟩:=ask x _ _ _ u (nW1 (a:=pJ (oZ R) w) (ps := "by"::row.map (pJ (oZ R))) B) (nGw j) (λs hs=>by
     rcases ap.mp hs with rfl | hs
     .exact I _ (Qt hw)
     .rcases ap.mp hs with rfl | hs
      .exact Sd
      .exact(zy s hs).2.2) (by simp;omega) (hFw j (.inr ⟨by simp;omega,rfl⟩)) (λs hs=>by rw[am.mp hs];exact Qt hw) (λs hs=>hs)
    rw[w_,show((pJ (oZ R) w::"by"::row.map (pJ (oZ R))).drop 2).map (oZ R).idxOf=row from hM]at A;rw[H];ext;exact fin x _ rs _ A (λ_=>rfl) (λ_=>by rw[aN (by omega)]) λ_=>hw
   |false =>
    ext;have e2:QB x [pJ (oZ R) w]=[]:=by
     cases h3:x=="why" with
     |true=>exact nGw h3
     |false=>exact nG0 h3 D
    have hf:Xl x [pJ (oZ R) w]=Y:=by
     cases h3:x=="why" with
     |true=>exact hFw h3 (.inl rfl)
     |false =>
      rw[h3]at j;have:¬(kind=1\/kind=2):=of_decide_eq_false j.symm;rw[a8 (show kind=0\/kind=5 by omega)]at E;exact hFl h3 E
    obtain⟨rs,H,A⟩:=one x u hw (nW1 B) e2 hf;rw[H];ext;refine fin x _ rs _ A (λz=>by rw[D]at z;cases z) (λz=>?_) λ_=>hw;rw[z]at j;have aJ:kind=1\/kind=2:=bD j.symm;rcases aJ with rfl | rfl
    .rfl
    .have:row=[]:=by
      rw[show(2==2)=Y from rfl,fU,ix]at c;exact b4.mp (by omega)
     rw[this];rfl
  .rw[a5 g2]at B |-;ext;rw[show(kind==2)=U by rw[bc];omega];ext;rw[a5 (show ¬(kind=1\/kind=2) by omega)]at j;rw[a5 (show ¬(kind=0\/kind=5) by omega)]at E;rw[a8 (show 6<=kind by omega)]at f5;obtain⟨rs,H,A⟩:=ask x [] [] [] u (nW0 B) (nG0 j D) (λs hs=>nomatch hs) (by simp) (hFr j E f5) (λs hs=>nomatch hs) (λs hs=>nomatch hs);rw[QF]at H;rw[H];ext;have A:va R 0 w x rs:=by
    cases A with
    |lot e h=>exact absurd E (by decide+kernel)
    |why h=>exact absurd j (by decide+kernel)
    |flaw h=>exact .flaw h
    |ranks hm e=>exact .ranks hm e
    |camps=>exact .camps
    |book=>exact .book
   exact fin x _ rs _ A (λz=>by rw[D]at z;cases z) (λz=>by rw[j]at z;cases z) λz=>by rw[B]at z;cases z
local macro_rules|`(tactic| walk_at "ev")=>`(tactic| try simp (disch:=fail"e") only[qE,qj,qF,pK,uo])
def MK(C:Nat->Addr)(T:tT C){R:List Rw}{M:List Str}(G:Gd R M){q tx:PV}{s6 s7 s8 s9:Slot}(c:Int):∃l B D I,TU C [.fz q,.fz tx,.fz (.tup ((oZ R).map .str)),.fz (oV R).enc,.fz (pM C R),.fz (.int c),s6,s7,s8,s9]=Z (.nx [.fz q,.fz tx,.fz (.tup ((oZ R).map .str)),.fz (oV R).enc,.fz (pM C R),.fz (.int c),l,B,D,I]):=by
 have ok:=Yb G;have h8:=ok.g8;have hl:=YE G;obtain⟨E,zw,hE⟩:=Ms c (n:=20) (by decide);obtain⟨H,zy⟩:=hE.2 0 (by decide);obtain⟨J,g6⟩:=hE.2 6 (by decide);obtain⟨L,g7⟩:=hE.2 7 (by decide);have m0:H%8<8:=bU _ (by decide);have m6:J%10<10:=bU _ (by decide);have k0:0<max 1 (oZ R).length:=by omega
 have m7:L%max 1 (oZ R).length<max 1 (oZ R).length:=bU _ k0;unfold TU;ext;rw[zw];ext;rw[zy];ext;generalize j:tK (oM (oW [6,2] 9 _) _)=kk;have tail:∀row:List Nat,(∀i∈row,i<(oV R).banes.length)->row.length<=9->∃l B D I,kk (.nx [.fz q,.fz tx,.fz (.tup ((oZ R).map .str)),.fz (oV R).enc,.fz (pM C R),.fz (.int c),.fz (.lst E),.fz (pN (H%8)),.ow (oO row),s9])=Z (.nx [.fz q,.fz tx,.fz (.tup ((oZ R).map .str)),.fz (oV R).enc,.fz (pM C R),.fz (.int c),l,B,D,I]):=λrow h1 h2=>by
  subst j;rw[tL];ext;rw[g7];ext;by_cases zx:0<(oZ R).length
  .rw[a8 zx];ext;rw[QiL C T G m0 h1 h2 (.inl (show L%max 1 (oZ R).length<(oZ R).length by omega))];ext;exact⟨_,_,_,_,rfl⟩
  .rw[a5 zx];ext;exact⟨_,_,_,_,rfl⟩
 by_cases t:0<(oV R).banes.length
 .rw[a8 t];ext;rw[g6];ext;rw[Tz (λk=>(E[8+k]?.bind λp=>match p with | .int i=>Z i.toNat | _=>O).getD 0%(oV R).banes.length) (ai (J%10)) λk j=>⟨_,rfl,by
   obtain⟨d,gd⟩:=hE.2 (8+k) (by have:=aR.mp j;omega);ext;rw[gd];ext
   try rfl⟩]
  ext;exact tail _ (λi u=>by
   obtain⟨k,j,rfl⟩:=aO.mp u;exact bU _ t) (by simp;omega)
 .rw[a5 t];ext;exact tail [] (λi u=>nomatch u) (by simp)
def ML(C:Nat->Addr){R:List Rw}{M:List Str}(G:Gd R M){l:oN->Option (List PV)}{B:oN}(h:l B=Z [.str (aL nl (R.map Rw.line))]):tG (C 5) Zl l B=Z (pM C R):=RL h λa=>FW G a
def law60(C:Nat->Addr)(D:tT C)(ns:List Int)(L:ns.length<=63):r_law_k60 C [.lst (ns.map .int)]=Z (.bl Y):=by
 obtain⟨R,M,J,G⟩:=Gc ns;have zx:YT [.str (aL nl (R.map Rw.line))]=Z (.tup [vV R,(oV R).enc]):=by
  rw[LP G];unfold Ry;rw[<-W4]
 unfold r_law_k60;ext;rw[J];ext;rw[zx];ext;rw[ML C G rfl];ext;rw[show flat (pM C R)=U from rfl];ext;have cl:=zU ns (Z ((3:Nat):Int)) (Z ((11:Nat):Int));generalize qL ns (Z ((3:Nat):Int)) (Z ((11:Nat):Int))=cells at *;obtain⟨T,zw,s5,t,j,l,B,rfl⟩:=Pw (g:=oY 5) (b:=TU C) PV.int (λ(u:Unit) _=>u) (λ_ E=>∃s5 t j l B:Slot,E=[.fz (.lst (ns.map .int)),.fz (.str (aL nl (R.map Rw.line))),.fz (vV R),.fz (oV R).enc,.fz (pM C R),s5,t,j,l,B]) cells () [.fz (.lst (ns.map .int)),.fz (.str (aL nl (R.map Rw.line))),.fz (vV R),.fz (oV R).enc,.fz (pM C R),.un,.un,.un,.un,.un] ⟨_,_,_,_,_,rfl⟩ (λ_ E c hc zy=>by
  obtain⟨s5,t,j,l,B,e⟩:=zy;subst e;obtain⟨u6,u7,u8,u9,e⟩:=MK C D G (q := .lst (ns.map .int)) (tx := .str (aL nl (R.map Rw.line))) (s6:=t) (s7:=j) (s8:=l) (s9:=B) c;exact⟨_,_,rfl,e,_,_,_,_,_,rfl⟩)
 rw[zw];have right:=λ(k:Nat)(h:k=6\/k=7)=>QiL C D G (kind:=k) (w:=0) (row:=[]) (by omega) (λi hi=>nomatch hi) (by simp) (.inr h);have H:=right 6 (.inl rfl);have I:=right 7 (.inr rfl);rw[show oO []=[] from rfl]at H I;ext;rw[H];ext;rw[I];ext
 try rfl
end DH
def K60.law_true(C:Nat->PySem.Addr)(B:([C 1,C 2,C 3,C 4]:List PySem.Addr).Nodup)(ns:List Int)(l:ns.length<=63):DH.r_law_k60 C [.lst (ns.map .int)]=Z (.bl Y):=DH.law60 C B ns l
namespace K60
open PySem PySem.Spec PySem.W PyProof.Rows L2 L2.PM DH HD
variable{P:bh}{w:cg}{K:Frag}{mg:Str->Option Value}{base:Heap}
class Q (k:outParam Nat) (x:Str) (n:outParam Nat) (g:outParam (List PV->Option PV)):Prop where
 q:∀{P w K mg base},Bd P w K mg base->SH P w K mg base k x n g
def Hb(x q:Str)(st:Stmt):Prop:=∀(kV doc l:Value)(a:Option Addr)(j ct:Value)(us:List Value),us.length=(an st).length->gg (fnOf x q (Qz st) (Qn st) (Qe st) .none kV doc l a j ct) ⟨us,[]⟩=pure ((an st).zip us)
local macro_rules|`(tactic| walk_at "b")=>`(tactic| (intro _ _ _ _ _ _ us hl;first|exact lb1 (P:=λus=>bindArgs _ ⟨us,[]⟩=pure (List.zip _ us)) (by intros;exact rfl) us hl|exact Pc (P:=λus=>bindArgs _ ⟨us,[]⟩=pure (List.zip _ us)) (by intros;exact rfl) us hl|exact lb3 (P:=λus=>bindArgs _ ⟨us,[]⟩=pure (List.zip _ us)) (by intros;exact rfl) us hl|exact lb4 (P:=λus=>bindArgs _ ⟨us,[]⟩=pure (List.zip _ us)) (by intros;exact rfl) us hl|exact lb5 (P:=λus=>bindArgs _ ⟨us,[]⟩=pure (List.zip _ us)) (by intros;exact rfl) us hl|exact lb6 (P:=λus=>bindArgs _ ⟨us,[]⟩=pure (List.zip _ us)) (by intros;exact rfl) us hl))
section
variable{CX:Gw}{sp:Sp}{k:Nat}{x:Str}
def qc(B:Bd P w K mg base)(i:Nat)(ok:∀{f fd},Txt K mg->sO K x x (top i) f fd->FnOk P w K mg base CX k f fd (an (top i)) sp)(l:Tr.contains i=Y:=by rfl)(D:nm (top i)=x:=by rfl)(I:Hb x x (top i):=by walk_at "b") :
  ∃f fd ps,FnOk P w K mg base CX k f fd ps sp/\mg x=Z (.ref f)/\keepIn K (.ref f)=Y/\ZJ K fd ps []:=by
 subst D;obtain⟨f,fd,a,F⟩:=(fx B).d i l;exact⟨f,fd,_,ok (fx B) F,a,F.kp,F.binds I⟩
def qm(B:Bd P w K mg base)(i:Nat){C:Nat}{m q:Str}{st:Stmt}(l:V9[i]?=Z (C,m,q,st))(ok:∀{f fd},Txt K mg->sO K m q st f fd->FnOk P w K mg base CX k f fd (an st) sp)(hc:cls.contains (cc C)=Y:=by rfl)(D:Hb m q st:=by walk_at "b") :
  ∃f fd ps,FnOk P w K mg base CX k f fd ps sp/\tZ K (cc C)/\tv K (cc C) m f/\ZJ K fd ps []:=by
 obtain⟨f,fd,M,F⟩:=(fx B).m i _ l;exact⟨f,fd,_,ok (fx B) F,((fx B).c _ hc).1,M,F.binds D⟩
def qk(B:Bd P w K mg base){C:Nat}{g:Addr->List PV->OT->Option OT}{n:Nat}(h:J0 P w K mg base k (cc C) "-" "__init__" n g)(l:V8.lookup x=Z C:=by rfl)(hc:cls.contains (cc C)=Y:=by rfl):J1 P w K mg base k (cc C) "-" x n g:=by
 obtain⟨f,fd,ps,h1,_,M,b⟩:=h;have c:=(fx B).c _ hc;have z:=(fx B).n x (by rw[l];rfl);rw[l]at z;exact⟨f,fd,ps,h1,⟨c.2.1,M.at_,M.fn,c.2.2.1⟩,z,b⟩
end
def qd(i:Nat){k n:Nat}{x:Str}{g:List PV->Option PV}(H:∀{P:bh} {w:cg} {K:Frag} {mg:Str->Option Value} {base:Heap} {f fd},Bd P w K mg base->Txt K mg->sO K x x (top i) f fd->FnOk P w K mg base qh k f fd (an (top i)) (spM K n g))(l:Tr.contains i=Y:=by rfl)(D:nm (top i)=x:=by rfl)(I:Hb x x (top i):=by walk_at "b"):Q k x n g :=
 ⟨λB=>qc B i (λT F=>H B T F) l D I⟩
def Txt.fl(T:Txt K mg){D:Addr}{f:Str}(h:(cls.contains D&&Pr.contains f)=Y):yo K D f:=have z:=(aQ ..).mp h;have c:=T.c D z.1;⟨c.1,c.2.2.2 f z.2⟩
def Txt.fs(T:Txt K mg){l:List Addr}{f:Str}(h:(l.all λD=>cls.contains D&&Pr.contains f)=Y):∀D,D∈l->yo K D f:=λD j=>T.fl (aX.mp h D j)
local macro_rules|`(tactic| unfold $_ $y $z*)=>`(tactic| unfold $y $z*)
local macro_rules|`(tactic| unfold $x:ident $_*)=>`(tactic| refine' @$x ..)
local macro_rules|`(tactic| if()then $a:tacticSeq else $b:tacticSeq)=>`(tactic| ($b))
local macro_rules|`(tactic| if()then $a:tacticSeq else $b:tacticSeq)=>`(tactic| ($a))
local macro_rules|`(tactic| walk_at "k")=>`(tactic| repeat' first|((with_reducible refine(?_:(_:Prop)));if()then ((with_reducible show _=_);first|rfl|assumption|decide|exact Txt.b ‹_› _ (by kernel_rfl)|kernel_rfl|with_unfolding_all rfl) else if()then ((with_reducible show EM _ _ (.Name _ _) _);first|with_reducible refine' @Iu _ _ _ _ _|with_reducible refine' @OO _ _ _ _ _ _ _|refine' @ON _ _ _ _ _ _ _) else if()then ((with_reducible show EM _ _ (.Constant _ _ _) _);first|exact wX|exact wY|exact NW|exact Iv) else if()then ((with_reducible show EM _ _ (.Call _ _ _ _) _);first|(with_reducible (if()then refine' qu Jp _ _ _ _ _ _ _ _ else if()then refine' qu (JF _) _ _ _ _ _ _ _ _ else if()then refine' qu (JG _) _ _ _ _ _ _ _ _ else if()then refine' qu (Jr _) _ _ _ _ _ _ _ _ else if()then refine' qu (Js _) _ _ _ _ _ _ _ _ else if()then refine' qu (Jq _) _ _ _ _ _ _ _ _ else if()then refine' sV xx _ _ _ _ _ _ _ _ else if()then refine' sV Ki _ _ _ _ _ _ _ _ else unfold vI C4 ya C2 vF uK ug vG vK EO.em Pj V1 J5 vE DI vM J2))|refine' yw _ _ _) else if()then ((with_reducible show EM _ _ _ _);with_reducible unfold N0 NY Iw Ja C5 EO.em Oj IW Oi IV em_not IZ I0 xb em_js2 em_fv Dw OW) else if()then ((with_reducible show AM _ _ _ _);first|with_reducible exact xg|((with_reducible show AM _ _ (.Constant _ _ _::_) _);first|refine' @VY _ _ _ _ _ _ _ _|refine' @VZ _ _ _ _ _ _ _ _)|with_reducible refine' @sh _ _ _ _ _ _ _ _ _ _) else if()then ((with_reducible show GO _ _ _ _ _);first|(with_reducible unfold xs_cons JU)|refine' xs_cons _ _) else if()then ((with_reducible show XM _ _ _ _ _);first|refine' OY _ _ (Po _ _)|refine' O0 (by assumption) sA (o8.mono (by assumption) (by decide)) rfl (GY _ _)|refine' OX _ (by assumption) sA (o8.mono (by assumption) (by decide)) (GY _ _)|refine' Dm (qU _ _ _) _) else if()then ((with_reducible show PE _ _ _);refine' @pv _ _ _ _ _ _ _ _) else if()then ((with_reducible show qY _ _ _);with_reducible unfold IJ Iz IA ID IC N8 N6 N7 N9 Of w9 IE IF IG N5 IH JH Db om_notInS Ob Oc Od w8) else if()then ((with_reducible show EO _ _ _ _);with_reducible (if()then unfold Ph Jb IP NZ x8 uf uG else if()then refine' so sX _ _ _ _ _ _ _ _ else if()then refine' so uO _ _ _ _ _ _ _ _ else if()then refine' so ui _ _ _ _ _ _ _ _ else if()then refine' vu CZ _ _ _ _ _ _ _ _ else refine' @Pq ..)) else if()then ((with_reducible show TM _ _ _ _);with_reducible unfold IT Ix xc xa WM.tm) else if()then ((with_reducible show WM _ _ _ _);with_reducible unfold CJ IQ IS Oh) else if()then ((with_reducible show IM _ _ _ _ _);with_reducible unfold xY yy xT vB C8 xo JB JK xp) else if()then ((with_reducible show SA _ _ _ _ _);with_reducible unfold uD uI) else if()then ((with_reducible show ua _ _ _);first|(with_reducible unfold Jd Je ss_cons)|refine' @ss_cons _ _ _ _ _ _ _) else if()then ((with_reducible show SM _ _ _);first|(with_reducible (if()then exact Oo else if()then refine' @Kj (hq:=by with_unfolding_all rfl) .. else if()then refine' @GX (hy:=by with_unfolding_all rfl) .. else unfold GW Pd V7 vf ve xl GF Pe vg Pg xm Pf xq VW VX))|((with_reducible show SM _ (.Return _ _) _);first|refine' @xl _ _ _ _ _ _|refine' @ve _ _ _ _ _ _|refine' @vf _ _ _ _ _ _)|((with_reducible show SM _ (.If _ _ _ _) _);refine' @GF _ _ _ _ _ _ _ _ _ _ _ _)|((with_reducible show SM _ (.AugAssign _ _ _ _) _);refine' @xm _ _ _ _ _ _ _ _ _ _ _ _ _ _ _ _)|((with_reducible show SM _ (.For _ _ _ _ _) _);first|refine' @Pe _ _ _ _ _ _ _ _ _ _ _ _ _ _ _ _ _ _|refine' @vg _ _ _ _ _ _ _ _ _ _ _ _ _ _ _ _)|((with_reducible show SM _ (.Assign _ _ _) _);first|refine' @Pd _ _ _ _ _ _ _ _ _ _ _ _ _ _ _ _|refine' @GW _ _ _ _ _ _ _ _ _ _ _ _ _ _ _ _|refine' @GX _ _ _ _ _ _ _ _ _ _ _ _ _ _ _ _ _ _ _ _ _ _ _ _ _ _ _ _ _ _ _ _ _ _ _)|((with_reducible show SM _ (.Expr _ _) _);first|refine' @Pg _ _ _ _ _ _ _ _ _ _ _ _ _ _ _ _ _ _ _ _|refine' @Pf _ _ _ _ _ _ _ _ _)) else if()then (with_reducible first|unfold CQ CT CS B3 HJ wo|exact II|exact oo_rep|exact Og|exact B4|exact Jk|unfold CH CI Jl) else if()then ((with_reducible show _->∀_ _ _ _ _ _,GU _ _ _ _);intro _ _ _ _ _ _ _;refine' kGU _ _) else if()then ((with_reducible show ∀_ _ _ _ _ _,IU _ _ _ _);intro _ _ _ _ _ _;refine' kIU _ _) else if()then ((with_reducible show ∀_ _ _ _ _ _,EU _ _ _ _);intro _ _ _ _ _ _;refine' kEU _ _) else (refine(?_:(_:Prop));first|exact Or.inl rfl|assumption|decide|exact Or.inr rfl|exact Or.inr (Or.inl rfl)|exact Or.inr (Or.inr rfl)|exact PassesOwn.never|exact o8.mono ‹_› (by decide)|exact o8.units ‹_›|exact qP|(intro _;rfl)|(intro _ _;rfl)|exact uJ.cal ‹_›|exact sA|exact xt|exact runR_len|exact Txt.fs ‹_› (by kernel_rfl)|exact Q.q ‹_›|exact Txt.fl ‹_› (by kernel_rfl)|exact Txt.i ‹_› _ _ (by kernel_rfl)|exact Txt.z ‹_›|exact CY|exact CW|exact vD _|exact uE _ _|rfl))|fail)
local macro_rules|`(tactic| walk_at "m")=>`(tactic| ((first|refine' fnK ‹_› _ _ _ _ _|refine' V2 ‹_› _ _ _ _ _|refine' V6 ‹_› _ _ _ _ _|refine' V4 ‹_› _ _ _ _ _|refine' V5 ‹_› _ _ _ _ _);rotate_left;rfl;rfl;exact⟨rfl,rfl,rfl,by decide+kernel,rfl,by decide+kernel,by decide+kernel⟩;(first|exact(rfl:_=[_])|exact(rfl:_=_::_::_));intro _ _ _ _ _ _ _ _;walk_at "k"))
instance:Q 1 "_law_draws" 2 Zh:=qd 94 λB T F=>by walk_at "m"
instance:Q 1 "_law_fresh" 2 ZH:=qd 96 λB T F=>by walk_at "m"
instance:Q 2 "_law_names" 2 Yp:=qd 97 λB T F=>by walk_at "m"
def Qgu(B:Bd P w K mg base):Jw P w K mg base 1 "_law_rules" 3 Yo:=qc B 99 λT F=>by walk_at "m"
instance:Q 1 "_law_cell_at" 2 Zv:=qd 95 λB T F=>by walk_at "m"
instance:Q 1 "_law_line" 1 ZO:=qd 98 λB T F=>by walk_at "m"
instance:Q 3 "_law_text" 1 YJ:=qd 100 λB T F=>by have:=Qgu B;walk_at "m"
instance:Q 1 "is_word" 1 Zd:=qd 60 λB T F=>by walk_at "m"
instance:Q 2 "is_guess_row" 1 QH:=qd 61 λB T F=>by walk_at "m"
instance:Q 2 "is_rule_row" 1 QU:=qd 62 λB T F=>by walk_at "m"
def QjR(B:Bd P w K mg base):uJ P w K mg base 3 "read_row" 2 0 QV:=by have T:=fx B;obtain⟨_,a,F⟩:=T.d_read_row;exact⟨_,_,an (top 63),by walk_at "m",a,F.kp,F.binds λ_ _ _ _ _ _ _ _=>Pc λ_ _=>⟨_,rfl,rfl⟩,F.bindsD λ_ _ _ _ _ _ _ d us l=>match us,l with | [_],_=>⟨_,rfl,rfl⟩⟩
instance:Q 3 "read_row" 2 QV:=⟨λB=>(QjR B).cal⟩
instance:Q 1 "of_kind" 2 QT:=qd 66 λB T F=>by walk_at "m"
instance:Q 1 "words_in" 1 Xu:=qd 67 λB T F=>by walk_at "m"
instance:Q 2 "over_bounds" 1 ZL:=qd 68 λB T F=>by walk_at "m"
instance:Q 1 "told_once" 1 Yf:=qd 65 λB T F=>by walk_at "m"
instance:Q 4 "read_rows" 1 XG:=qd 69 λB T F=>by walk_at "m"
instance:Q 2 "refuse_headed" 1 ZR:=qd 70 λB T F=>by have sc:pB ["rows","guesses","number","told"] (an (top 70)) (Qe (top 70)):=⟨rfl,rfl,rfl,by decide+kernel,rfl,by decide+kernel,by decide+kernel⟩;have nd:=sc.nd;refine Vm (k:=1) F sc rfl λcdv A outer s H E hr=>?_;walk_at "k"
instance:Q 2 "names_of" 1 TB:=qd 71 λB T F=>by walk_at "m"
instance:Q 1 "numbered_rule" 2 ZS:=qd 72 λB T F=>by walk_at "m"
instance:Q 2 "numbered_book" 2 ZT:=qd 73 λB T F=>by walk_at "m"
instance:Q 5 "read_lines" 1 Zg:=qd 74 λB T F=>by walk_at "m"
instance:Q 1 "lines_of" 1 ZE:=qd 64 λB T F=>by walk_at "m"
instance:Q 6 "read_book" 1 YT:=qd 75 λB T F=>by walk_at "m"
def QhX(B:Bd P w K mg base):J0 P w K mg base 6 (cc 5) "-" "keep" 2 XJ:=qm B 8 rfl λT F=>by walk_at "m"
def Qdz(B:Bd P w K mg base):J1 P w K mg base 7 (cc 5) "-" "Desk" 2 Zl:=by have:=QhX B;have T:=fx B;have c:=T.c (cc 5) rfl;obtain⟨_,F,a,i⟩:=T.v;exact⟨_,_,an (Zs (top 92) 0),by walk_at "m",⟨c.2.1,a,i,c.2.2.1⟩,T.n _ (by kernel_rfl),F.binds λ_ _ _ _ _ _ _ _=>Pc λ_ _=>⟨_,rfl,rfl⟩⟩
instance:Q 1 "has_form" 1 TC:=qd 80 λB T F=>by walk_at "m"
instance:Q 2 "refuse_form" 1 YI:=qd 83 λB T F=>by walk_at "m"
instance:Q 1 "named_guesses" 1 QL:=qd 82 λB T F=>by walk_at "m"
instance:Q 1 "named_words" 1 ZM:=qd 81 λB T F=>by walk_at "m"
instance:Q 2 "refuse_names" 3 Ym:=qd 84 λB T F=>by walk_at "m"
instance:Q 1 "mask_of" 1 Zc:=qd 3 λB T F=>by walk_at "m"
instance:Q 1 "places" 1 Nc:=qd 2 λB T F=>by walk_at "m"
instance:Q 2 "shown_set" 2 QC:=qd 5 λB T F=>by walk_at "m"
def Qdy(B:Bd P w K mg base):JZ P w K mg base 3 (cc 1) "shown" 2 (Zk cc):=qm B 0 rfl λT F=>by walk_at "m"
instance:Q 3 "shown_pair" 3 Yr:=qd 46 λB T F=>by walk_at "m"
def Qgv(B:Bd P w K mg base):JZ P w K mg base 4 (cc 2) "shown" 2 (Yu cc):=qm B 2 rfl λT F=>by walk_at "m"
def Qfe(B:Bd P w K mg base):JZ P w K mg base 4 (cc 3) "shown" 2 (ZP cc):=qm B 4 rfl λT F=>by walk_at "m"
def QhW(B:Bd P w K mg base):JZ P w K mg base 1 (cc 4) "shown" 2 (YV cc):=qm B 6 rfl λT F=>by walk_at "m"
instance:Q 1 "inside" 2 QD:=qd 4 λB T F=>by walk_at "m"
instance:Q 2 "bringing_steps" 2 QX:=qd 7 λB T F=>by have sc:pB ["book","held","rules","bodies","known","steps","grown","number","rule","head"] (an (top 7)) (Qe (top 7)):=⟨rfl,rfl,rfl,by decide+kernel,rfl,by decide+kernel,by decide+kernel⟩;have nd:=sc.nd;refine Vm (k:=1) F sc rfl λcdv A outer s H E hr=>?_;walk_at "k"
instance:Q 2 "needed_steps" 3 Yn:=qd 11 λB T F=>by walk_at "m"
instance:Q 2 "known_after" 3 ZN:=qd 8 λB T F=>by walk_at "m"
instance:Q 3 "way" 3 Nf:=qd 12 λB T F=>by walk_at "m"
instance:Q 1 "shown_rule" 2 QQ:=qd 76 λB T F=>by walk_at "m"
instance:Q 4 "why_rows" 4 TH:=qd 85 λB T F=>by walk_at "m"
instance:Q 3 "yielded" 2 YO:=qd 9 λB T F=>by walk_at "m"
instance:Q 4 "struck" 2 Xd:=qd 21 λB T F=>by walk_at "m"
instance:Q 4 "does_yield" 3 Ys:=qd 15 λB T F=>by walk_at "m"
instance:Q 5 "a_reason" 3 QJ:=qd 19 λB T F=>by walk_at "m"
instance:Q 6 "first_strike" 3 Zt:=qd 26 λB T F=>by walk_at "m"
instance:Q 1 "all_guesses" 1 Zn:=qd 14 λB T F=>by walk_at "m"
instance:Q 5 "unstruck" 2 YN:=qd 22 λB T F=>by walk_at "m"
instance:Q 6 "defended" 2 Zm:=qd 24 λB T F=>by walk_at "m"
instance:Q 7 "flaw" 2 Rg:=qd 27 λB T F=>by walk_at "m"
instance:Q 8 "flaw_rows" 3 Yg:=qd 86 λB T F=>by walk_at "m"
instance:Q 1 "rank_row" 2 TJ:=qd 87 λB T F=>by walk_at "m"
instance:Q 7 "rounds" 1 TK:=qd 42 λB T F=>by walk_at "m"
instance:Q 2 "rank_in" 2 TL:=qd 43 λB T F=>by walk_at "m"
instance:Q 8 "settled" 1 QS:=qd 44 λB T F=>by walk_at "m"
instance:Q 9 "rank_rows" 2 XH:=qd 88 λB T F=>by walk_at "m"
instance:Q 5 "at_peace" 2 TN:=qd 23 λB T F=>by walk_at "m"
instance:Q 7 "stands" 2 Rh:=qd 25 λB T F=>by walk_at "m"
def Y8(B:Bd P w K mg base):uJ P w K mg base 8 "camps" 2 0 Xz:=by have T:=fx B;obtain⟨_,a,F⟩:=T.d_camps;exact⟨_,_,an (top 29),by walk_at "m",a,F.kp,F.binds λ_ _ _ _ _ _ _ _=>Pc λ_ _=>⟨_,rfl,rfl⟩,F.bindsD λ_ _ _ _ _ _ _ d us l=>match us,l with | [_],_=>⟨_,rfl,rfl⟩⟩
instance:Q 8 "camps" 2 Xz:=⟨λB=>(Y8 B).cal⟩
instance:Q 9 "camp_rows" 3 XI:=qd 89 λB T F=>by walk_at "m"
instance:Q 1 "shown_guess" 3 YH:=qd 77 λB T F=>by walk_at "m"
instance:Q 2 "shown_book" 2 Zf:=qd 78 λB T F=>by walk_at "m"
def Yq(B:Bd P w K mg base){D:Addr}(l:cls.contains D=Y):OZ P w K mg base 1 D "-" "Lot" "__init__" 3 QY:=by have T:=fx B;obtain⟨a,b,c,_,F⟩:=T.o;exact⟨_,_,an (Zs (top 47) 0),cc 0,by have h:=λf=>T.fl (D:=D) (f:=f);rw[l]at h;have:=h "word" rfl;have:=h "name" rfl;walk_at "m",T.n _ (by kernel_rfl),a,b,c,F.kp,F.binds (by walk_at "b")⟩
def QcC(B:Bd P w K mg base):J1 P w K mg base 3 (cc 3) "-" "Maybe" 5 ZD:=qk B (qm B 5 rfl λT F=>by have:=Yq B (D:=cc 3) rfl;walk_at "m")
def QbO(B:Bd P w K mg base):J1 P w K mg base 3 (cc 1) "-" "Settled" 3 Zb:=qk B (qm B 1 rfl λT F=>by have:=Yq B (D:=cc 1) rfl;walk_at "m")
def Qdx(B:Bd P w K mg base):J1 P w K mg base 3 (cc 2) "-" "Sure" 3 ZU:=qk B (qm B 3 rfl λT F=>by have:=Yq B (D:=cc 2) rfl;walk_at "m")
def QcB(B:Bd P w K mg base):J1 P w K mg base 3 (cc 4) "-" "Never" 2 ZC:=qk B (qm B 7 rfl λT F=>by have:=Yq B (D:=cc 4) rfl;walk_at "m")
instance:Q 9 "lot" 2 (TQ cc):=qd 52 λB T F=>by have:=Y8 B;have:=QbO B;have:=Qdx B;have:=QcC B;have:=QcB B;walk_at "m"
instance:Q 10 "answer" 3 (TR cc):=qd 90 λB T F=>by walk_at "m";any_goals exact Tb ⟨⟨_,Qdy B,o8.mono ‹_› (by decide)⟩,qP⟩ (Tb ⟨⟨_,Qgv B,o8.mono ‹_› (by decide)⟩,qP⟩ (Tb ⟨⟨_,Qfe B,o8.mono ‹_› (by decide)⟩,qP⟩ (Tb ⟨⟨_,QhW B,o8.mono ‹_› (by decide)⟩,qP⟩ (J4))))
def QjS(B:Bd P w K mg base):JZ P w K mg base 11 (cc 5) "ask" 2 (Yc cc):=qm B 9 rfl λT F=>by walk_at "m"
instance:Q 2 "way_fault" 4 XF:=qd 10 λB T F=>by walk_at "m"
instance:Q 4 "_law_why" 5 Xv:=qd 104 λB T F=>by walk_at "m"
instance:Q 2 "least_yielding" 2 ZB:=qd 17 λB T F=>by walk_at "m"
instance:Q 4 "yielded_by_each" 1 Zo:=qd 16 λB T F=>by walk_at "m"
instance:Q 5 "reasons" 2 YS:=qd 18 λB T F=>by walk_at "m"
instance:Q 1 "_law_mask" 2 Ze:=qd 101 λB T F=>by walk_at "m"
instance:Q 2 "_law_pair" 3 YU:=qd 102 λB T F=>by walk_at "m"
instance:Q 9 "_law_lot" 4 Xw:=qd 103 λB T F=>by have:=Y8 B;walk_at "m"
instance:Q 8 "_law_flaw" 4 Zy:=qd 105 λB T F=>by walk_at "m"
instance:Q 9 "_law_ranks" 2 Zu:=qd 106 λB T F=>by walk_at "m"
instance:Q 1 "_law_lines" 1 Yt:=qd 107 λB T F=>by walk_at "m"
instance:Q 12 "_law_right" 6 (QM cc):=qd 108 λB T F=>by have:=QjS B;walk_at "m"
def ok_law{f:Addr}{fd:eT}(B:Bd P w K mg base)(T:Txt K mg)(F:sO K "law" "law" (top 109) f fd):FnOk P w K mg base qh 13 f fd (an (top 109)) (spM K 1 (r_law_k60 cc)):=by have:=Qdz B;walk_at "m"
end K60
open PySem PySem.W PyProof.Rows
set_option maxRecDepth 100000 in
set_option maxHeartbeats 8000000 in
theorem PySem.Challenge.cw_doubthall_k60_asks_holds : PySem.Challenge.rw_doubthall_k60_asks.Holds := by
 refine HD.opens (K:=K60.kk) (as:=K60.ka) (st:=K60.top 109) (N:=6343) K60.h_said (by kernel_rfl) (λs=>by kernel_rfl) (by kernel_rfl) K60.h_one (by kernel_rfl) (by kernel_rfl) (by kernel_rfl) (by kernel_rfl) (by kernel_rfl) ⟨rfl,rfl,rfl,rfl,rfl,by decide+kernel⟩ ?hw ?hc
 (case hw=>w_witness2)
 refine HD.walkW (n:=63) (k:=13) (x := "script") (K:=λw=>K60.kk w _) (sp:=λK=>L2.PM.spM K 1 L2.PM.trueOn) rfl (by decide) rfl ⟨rfl,by decide,by decide⟩ (λw mg fa h X G e=>?_) λK H a ns hl hS=>L2.PM.law_sp L2.PM.trueOn_ok hl hS;have T:=K60.fx (P:=PySem.Challenge.rw_doubthall_k60_asks.prog) (w:=w) (base:=h) ⟨⟨_,_,rfl⟩,h,X,G⟩;obtain⟨f,fd,a,F⟩:=T.d 109 rfl;cases e.symm.trans a;have F2:=F;obtain⟨_,_,kV,dc,pm,an,cd,ct,_,rfl,_,_⟩:=F2.ex;exact⟨_,λs v=>.of_eq rfl,λbase _ _=>(K60.ok_law ⟨⟨_,_,rfl⟩,h,X,G⟩ T F).sw λqs r h=>L2.PM.trueOn_get (K60.law_true K60.cc (by decide+kernel)) h⟩
