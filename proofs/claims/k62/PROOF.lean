import PyProof.Rows.All
import KE.KRevIter
import KE.KSortTup
import KE.KIsAll
import PySem.Challenge.RW_doubthall_k62_asks_refused
set_option compiler.extract_closed false
set_option Elab.async false
set_option linter.all false
set_option tactic.hygienic false
set_option maxRecDepth 100000
noncomputable section
open PySem.W renaming Frag->aa,keepIn->bX,fnOf->cD,boot_heap->dG,emptyDict->dU,findIn->d6,callWith_K->eg,kia_one->eB,codeIn->eM,instObj->eV,cellsFrom_some->fo,methodCall_KW->fF,hideAll_get->fS,plainGet->gS,lookIn->iw,plainGet_of->iD,hasDictIn->i3,findIn->jf,takerIn->jr,hideAll->js,isFn->kh,looks_mroIn->kv,hideAll_none->kQ,SharedT->k9,boot_drawn->lu,of_hideAll->lA,specialIn->lO,plainOver->lP,handedIn->md,mroIn->mq,boot_toks->mu,readsIn->mx,makesIn->my,findCls->mz,looks_findIn->mJ,OpenLaw->mR
open PySem renaming wpAny_bind->ac,wpAny_pure->ag,starEach->ah,Shared->aC,wpAny->aE,sizeLine->aI,Program->aY,wpAny_setState_of->bh,backTo->bx,compareOp->bI,rawInt->bP,wpAny_newObj_type->bU,binaryOp->bV,attributeBase->bW,wpAny_call_entry->b5,foldedSetIterable->cb,keywordEach->ce,World->cf,wpAny_loadPart'->cn,wpAny_holding->cr,swapsWith->cB,mem_of_lookup->cF,wpAny_askSetting->cH,bootBuiltins->cI,wpAny_truthy_bool->cO,wpAny_setField->cS,codeAny_builtin->cY,cellsFrom->c6,wpAny_mono->da,Around->dm,mainGlobals->dt,backToKw->dI,wpAny_callSpecial?_slot->dN,wpAny_field->dQ,Keyword->d4,SetTable->d5,FuncData->d9,wpAny_setEntries_of->ew,wpAny_passesOwn->eL,fits_of_scanBound->eQ,scanBound->eZ,pushCells->e9,getMethod->fg,codeAny_mono->fh,wpAny_execs_nil->fB,codeAny->fC,wpAny_pyIter_tuple->fD,call_meets->fE,bindArgs->fM,Scope->fN,wpAny_rule->fX,wpAny_isInstance->fY,noteFrame->fZ,PassesOwn->f7,plainId_quiet->gc,wpAny_of_eq->gm,sliceBounds->gq,sizeLine_eq->gs,standAt->gG,strKind->gH,pickOrder->gM,wpAny_runValue->gN,wpAny_Call_Name_kw->gO,callWith->gP,wpAny_storeSet_of->hV,wpAny_pyIter_list->hX,wpAny_pyIter_enum->hZ,OsState->ib,wpAny_newList->ik,wpAny_attempt->im,wpAny_eqBool_str->ir,wpAny_typeOf->iA,typeIs_str->iB,wpAny_updateSeq->iJ,pushCells_keeps->iK,cLine->iL,wpAny_seqItems->iX,wpAny_pyIter_revIter->iY,wpAny_fieldsOf->iZ,codeAny_call_builtin->i0,NameKind->i8,Builtin->je,behindInMarks->jk,wpAny_forIn_array'->jo,assignEach->jp,sub_set_self->jC,relayAll->jD,callerA->jE,wpAny_execs_cons->jS,treeTable->jT,inplaceOp->jU,wpAny_specialOf->j9,letOwnedTupleGo->kc,importedModules->kd,Within->kg,ElemsOf->kC,wpAny_load->kD,wpAny_call->kE,typeLookup->kF,strKind_is->kG,pyNext->kH,newFunctionEnv->kI,isInstance->kJ,entryFor_alias->kL,Result->kP,wpAny_comprehension_free->lp,setWalkUnseen->lq,call->lz,Slot->lB,ExceptHandler->lK,setFlight->lM,lastMarks->lN,wpAny_pyNext_range_end->lZ,wpAny_pyNext_enum_endD->l0,wpAny_pyIter_rangeiter->l6,wpAny_Call_method_late->l7,pyIter->l8,concat_meets->l9,BindsTo->mn,wpAny_loadName_local->mG,setField->mH,setEpoch->mI,entryFor->mK,codeAny_extend_loopS->mL,bindL->mO,bindC->mP,Slot->mQ
open And renaming intro->ae
open PySem.Heap renaming get?_push_of_some->af,get?_push_size->ay,lt_size->aD,size_push->bH,get?_update_other->bK,SameBut->bR,get?_update_self->dC
open List renaming length_map->ai,mem_singleton->al,length_range->am,range->ao,mem_cons->ap,getElem?_eq_some_iff->aw,mem_cons_of_mem->ax,getElem?_set_ne->aA,length_cons->aG,map_map->aH,length_append->aO,mem_append->aP,size_toArray->aQ,getElem?_eq_getElem->aR,getElem?_map->aT,mem_map->aU,mem_append_right->aV,getElem?_set_self->a0,lookup_cons->a6,mem_range->a7,map_cons->ba,mem_filter->bc,all_eq_true->bf,getElem_mem->bi,getElem?_eq_none->bp,append_nil->bu,mem_filterMap->bw,mem_cons_self->bB,idxOf_lt_length_iff->bE,map_append->bF,length_filter_le->bM,nodup_cons->bO,replicate->bS,mem_of_getElem?->bT,any_eq_true->bY,getElem?_append_left->b6,drop_eq_getElem_cons->b7,pairwise_cons->cx,mem_append_left->cy,filterMap_cons_some->cL,length_nil->cN,take_of_length_le->c7,getElem?_append_right->c8,length_replicate->dg,length_drop->dr,filterMap_cons_none->dw,mem_iff_getElem->dB,length_eq_zero_iff->dD,getElem?_replicate->dE,filter_cons_of_neg->dF,drop_eq_nil_of_le->dL,all_map->dM,length_take->dO,reverse_cons->d0,filter_cons_of_pos->d7,length->ee,pairwise_lt_range->eh,getElem_idxOf->et,ext_getElem?->eH,map_congr_left->eS,length_reverse->eT,zip_cons_cons->fm,any_eq_false->fw,singleton_append->fG,mem_flatMap->fI,cons_append->fJ,all_cons->fL,pairwise_append->fO,mem_of_mem_drop->fP,lookup->fQ,getElem?_range->fU,filterMap_cons->fV,any_map->f9,perm_ext_iff_of_nodup->gu,drop_zero->gv,pairwise_iff_getElem->gz,nodup_append->gB,append_assoc->gC,length_filterMap_le->gJ,pairwise_mergeSort->gW,filter_cons->gX,ext_getElem->gY,drop_length->gZ,zipIdx_map->ie,range_succ->ig,nil_append->ii,foldl_cons->ij,take_append_drop->io,getElem?_toArray->iq,perm_cons_erase->ix,length_eraseIdx->iy,zipIdx_map_fst->iF,replicate_succ->iG,mergeSort_perm->iH,map_drop->iM,getElem?_drop->iR,contains_cons->iS,findIdx?_eq_some_iff_getElem->iW,pairwise_map->i9,map_nil->ja,reverse_nil->jh,map_reverse->ji,of_mem_zip->jw,mem_zipIdx_iff_getElem?->jx,forIn_cons->jy,zip->jI,lt_irrefl->jJ,getD_eq_getElem?_getD->jK,getElem?_eq_none_iff->jQ,findIdx?_eq_none_iff->jR,sum_cons->jZ,length_erase_of_mem->j3,getElem?_cons_succ->j8,range_succ_eq_map->kq,length_eq_one_iff->kr,reverse_reverse->kT,mem_erase_of_ne->kU,getElem?_of_mem->kW,filter->kX,reverse_append->la,replicate_zero->lb,flatMap_append->lc,set_cons_succ->lE,getElem?_take->lF,filterMap_map->lG,take_sublist->lQ,take_add_one->lR,getElem_drop->lS,getElem?_set->lT,foldl_append->lU,filter_congr->lV,range'_succ->mj,not_mem_nil->ml,length_set->mE
open PySem.PyData renaming strOk->ar,canLay0->eD,depth->fk,canLayAll0->jG,depthAll->kj
open Nat renaming le_refl->aB,lt_of_lt_of_le->aF,ne_of_lt->aL,le_trans->aS,mod_lt->bA,lt_irrefl->b4,le_of_lt->b8,lt_succ_of_lt->cp,zero_le->cG,lt_succ_self->cU,le_succ->dy,eq_of_testBit_eq->dA,pow_le_pow_right->dY,testBit_and->eF,testBit_or->fr,lt_trans->ft,testBit_two_pow->fT,ne_of_gt->f8,testBit_two_pow_self->gI,testBit_lt_two_pow->hJ,two_pow_pos->ic,pos_of_ne_zero->iP,lt_of_le_of_lt->iQ,zero_add->i4,lt_trichotomy->i5,lt_or_ge->i6,le_of_succ_le->i7,zero_testBit->jg,testBit_xor->ju,and_le_left->jv,lt_pow_two_of_testBit->jP,eq_of_beq_eq_true->kA,log2_lt->kS,eq_zero_or_pos->lC,and_one_is_mod->lD,succ_ne_self->me,lt_of_not_le->mf,le_of_not_lt->mh,strongRecOn->mB,min_eq_left->mD
open Array renaming getElem?_eq_getElem->aM,length_toList->bQ,getElem?_eq_some_iff->b0,getElem?_eq_none->b9,getElem?_toList->di,size_map->eN,toList_inj->fK,toList_append->fW,getD_eq_getD_getElem?->gb,all_eq_true'->gy,append_assoc->iT,size_append->jd,mk->k8,toList_push->lY,replicate->mF
open Bool renaming and_eq_true->aN,eq_iff_iff->dH,or_eq_true->dR,false_eq_true->eu,false_ne_true->gx,not_eq_true'->gF,true_and->gL,or_true->hU,not_true->iN,false_and->jM,and_false->jN,or_false->j4,not_not->ku,or_eq_false_iff->kZ
open PySem.Txt renaming join->a5,slice->cg,split->cC,startswith->cT
open Option renaming bind_some->a9,isSome_iff_exists->cK,map_some->eX,map_eq_some_iff->ko
open Option.some renaming inj->br
open PySem.Builtin.Str renaming strSliceIndices->bD,strKind->cu,occurrences->iz,strSliceIndices->j5
open PySem.SetTable renaming below->bL,sizeAbove->bN,grown->dS,eraseAt->f6,bits->gf,turns->gR,insertAt->h7,laid->jl,fits->lw,fill->lx
open PySem.Obj renaming mapSeq->cm,data_mapFields->dX,isFreed_of_fields->eO,mapFields->gk
open PySem.Str renaming length->cw,empty->fj
open ForInStep renaming yield->cA
open Classical renaming byContradiction->cE,epsilon_spec->fy,choose_spec->fH,epsilon->gD,propDecidable->g7,not_imp->lW,choose->mm
open PyProof.Rows renaming envOfC->cM,seqObj->cQ,callWith_type1->cX,AllBare->iU,StrsAre->jV,listUpdate_at->kb,entry_list_sort->mr,IntsAre->mS
open False renaming elim->cP
open PySem.Value renaming ref->cR,none->de,bool->eI,isStrOf->ge
open PySem.NameKind renaming cell->cV
open PySem.Builtin.List renaming listTooLong->cW,listExtendWith->eR,listSameRef->fA,listLengthHint->gK,listFitsIndex->g9
open Int renaming toNat_natCast->c9,fdiv_eq_ediv_of_nonneg->jL
open PySem.Builtin renaming bitNot->dh,bitOr->gl,bitAnd->jc
open PySem.Heap.SameBut renaming update->dn,refl->d8
open PySem.F renaming slot_tuple_iterator_next->dW,plainAttrs_str->fq,plain_list_iadd->gT,plainAttrs_list->gU,args_tuple_iterator_next_1->iO,entry_tuple_iterator_next->iV,entry_proto_collect->jB,args_object_init_2->jF,plain_extend_loop->jO,slot_tuple_index->jW,slot_list_insert->jX,args_tuple_add_2->jY,entry_tuple_add->j6,entry_list_iadd->j7,slot_tuple_add->ki,type_str_join->kw,slot_str_join->kx,slot_set_iter->ky,slot_int_rmul->kz,slot_set_sub->kR
open PySem.Builtin.Range renaming rangeSize->eG
open List.Perm renaming eq_of_pairwise->eU
open List.Pairwise renaming filter->fR,sublist->kB
open PySem.StrLaws renaming lt_cons_cons->gt,lt_nil_nil->gQ,glued_eq_join->mw
open PySem.Builtin.Int renaming intBits->gE
open True renaming intro->hG
open PySem.Calls renaming call_function_entry->hQ,callWith_builtin->iI,evalArgs_plain->jb,Name_function_global->kY
open PySem.SetTable.below renaming go->ia
open PyProof.Rows.F renaming entry_set_update_loop->iE
open Sum renaming inl->i2,inr->ke
open PySem.BindsTo renaming of_defaults->jj
open PySem.AutoSeq1 renaming sub_tuple_list->jm,sub_list_tuple->jn
open PySem.SeqAt.EqAt renaming of_refs->jq,same->kf
open PySem.SeqAt renaming ne_of_list_tuple->jt,EqAt->kO
open PySem.Code renaming quiet_builtin->jz
open PySem.Builtin.Frozenset renaming differenceUpdate->jA,difference->kt
open Prod renaming fst->jH
open LawfulBEq renaming eq_of_beq->kK
open PySem.W.Fast renaming tw14364793385576792824->lf,tw11892475500146522536->lg,tw10156331382660048174->lh,te14364793385576792824->li,te11892475500146522536->lj,te10156331382660048174->ll,tw9446332074065402090->lH,tw6613529449190102663->lI,te6613529449190102663->lJ
open PySem.Builtin.SmallTypes renaming nextOf->lm
open PySem.Shared renaming TypeIs->lv
open PySem.Builtin.Tuple renaming tupleExact->lL
open BEq renaming rfl->lX
open LawfulMonad renaming bind_assoc->mM
open PySem.Around renaming under_plainId->mT
abbrev au:=@if_pos
abbrev aK:=@if_neg
abbrev aW:=@beq_eq_false_iff_ne
abbrev aX:=@decide_eq_false
abbrev a8:=@decide_eq_true
abbrev bg:=@beq_iff_eq
abbrev bC:=@of_decide_eq_true
abbrev dP:=@decide_eq_true_iff
abbrev iu:=@if_false
abbrev iC:=@ne_true_of_eq_false
abbrev i1:=@bne_self_eq_false
namespace HD
open PySem PySem.W PySem.Calls PyProof.Rows
noncomputable def run(f ok:Thread->Bool)(st:k9->Thread->Option (k9×Thread)):Nat->k9->Thread->Option k9
 |0,_,_=>none
 | n+1,s,t=>match f t with
  |true=>some s
  | false=>match ok t with
   |false=>none
   | true=>match st s t with
    |some x=>run f ok st n x.1 x.2
    |none=>none
set_option tactic.hygienic true in
def run_top{tb:String->Option je}{p:aY}{w:cf}{m:Nat}{an:Option Value}:∀(n:Nat)(s r:k9)(t:Thread),
  run through (stepOk m an) (stepT (denote tb) p w) n s t=some r->topRun tb p w m an n s.abs t=some r.abs:=by
 intro n;induction n with
 |zero=>intro s r t h;cases h
 |succ n f =>
  intro s r t h;simp only[run]at h;simp only[topRun];split at h
  .next e=>cases h;rw[e]
  .next e =>
   rw[e];split at h
   .cases h
   .next e2 =>
    rw[e2];split at h
    .next x e3=>rw[stepT_spec (s':=x.1) (t':=x.2) e3];exact f _ _ _ h
    .cases h
def tree(l:List Obj):BT:=(l.foldl (λx o=>(x.1.ins x.2 o,x.2+1)) (BT.nil,0)).1
def st0(w:cf)(os:ib):k9:=⟨tree (dG w.params).objs.toList,11,(dG w.params).life,k8 [],lu,mu,os⟩
def st0_abs(w:cf)(os:ib):(st0 w os).abs=⟨dG w.params,k8 [],lu,mu,os⟩:=by
 have h:∀P:Params,absHeap (tree (dG P).objs.toList) 11 (dG P).life=dG P:=λP=>by kernel_rfl
 show aC.mk (absHeap (tree (dG w.params).objs.toList) 11 (dG w.params).life) _ _ _ _=_;rw[h];rfl
def only(p:aY)(st:Stmt):aY:={ p with main:={ p.main with body:=[st] } }
def XV(p:aY):List Str:=(p.main.scope.names.map (·.1)).filter λn => !(n==("law":Str))
def sees(p:aY)(P:Params)(h:Heap)(s:aC):Bool :=
 staticsOk (kd p.main.body) (dG P) h&&namesBound p h&&gensDone s&&laidKept (dG P) h
def end_(p q:aY)(as:List Addr)(w:cf)(os:ib)(N:Nat) :=
 (run through (lI 11 (some (.ref 6))) (lh (lg lf) p w) N (st0 w os) (topStub p)).map λs =>
  (sees p w.params s.abs.heap s.abs,Fast.tw4187177175401517315 q (XV p) (kd p.main.body) (λ_=>true) true s.abs,as.all λa=>(s.abs.heap.get? a).isSome)
def osOf(p:aY)(N:Nat)(w:cf):ib:=match fencedOpening jT p w N with
 |some s=>s.os
 |none=>{}
def hof(p:aY)(N:Nat)(w:cf)(os:ib):Heap:=match run through (lI 11 (some (.ref 6))) (lh (lg lf) p w) N (st0 w os) (topStub p) with
 |some s=>s.abs.heap
 |none=>{}
def kof(p:aY)(as:List Addr)(N:Nat)(w:cf)(os:ib):Frag:=as.map λa=>(a,((hof p N w os).get? a).getD ⟨.none,none,.plain,#[]⟩)
def left{p q:aY}{as:List Addr}{N:Nat}(e:opening p=plainProg p.main.scope.names)(f:∀s,fenceModules? p s=some s)(D:Nat.ble 600 N=true)(one:∀(w:cf) (os:ib),end_ p q as w os N=some (true,openGood q (XV p),true)) :
  LeftO p q (XV p) (λ_=>true) (λs=>as.map s.heap.get?) (λw=>(kof p as N w (osOf p N w)).map λx=>some x.2) N:=by
 intro w;have o:=boot_open (p:=p) (N:=N) e D f w;match hf:fencedOpening jT p w N with
 |none=>rw[hf]at o;cases o
 |some ⟨h,E,d,k,os⟩ =>
  rw[hf]at o;have j:=br o;have H:h=dG w.params:=congrArg jH j;have I:E=k8 []:=congrArg (λx=>x.2.1) j;have J:d=lu:=congrArg (λx=>x.2.2.1) j;have L:k=mu:=congrArg (λx=>x.2.2.2) j;have r:=one w os;unfold end_ at r;rw[<-lJ,<-ll,<-lj,<-li,<-Fast.te4187177175401517315]at r;match hr:run through (stepOk 11 (some (.ref 6))) (stepT (denote jT) p w) N (st0 w os) (topStub p) with
  |none=>rw[hr]at r;cases r
  |some s =>
   rw[hr]at r;have l:=br r;have l1:=congrArg jH l;have l2:=congrArg (λx=>x.2.1) l;have M:=congrArg (λx=>x.2.2) l;have t:=run_top N _ _ _ hr;rw[st0_abs]at t;subst H I J L;have z:(dG w.params).isNs dt=true/\(dG w.params).objs.size=11/\(dG w.params).nsMap dt "__annotations__"=some (.ref 6):=⟨by kernel_rfl,by kernel_rfl,by kernel_rfl⟩
   have u:topFrom jT p w N ⟨dG w.params,k8 [],lu,mu,os⟩=some s.abs:=by
    simp only[topFrom,z.1,z.2.1,z.2.2,t];have B:(staticsOk (kd p.main.body) (dG w.params) s.abs.heap&&namesBound p s.abs.heap&&gensDone s.abs&&laidKept (dG w.params) s.abs.heap)=true:=l1;simp only[a9,B];rfl
   have v:openEnds jT p w N=some s.abs:=by
    delta openEnds;rw[hf];exact u
   have ho:osOf p N w=os:=by
    delta osOf;rw[hf]
   subst ho;rw[v];have O:hof p N w (osOf p N w)=s.abs.heap:=by
    delta hof;rw[<-lJ,<-ll,<-lj,<-li,hr]
   refine congrArg some (Prod.ext l2 ?_);show as.map s.abs.heap.get?=(kof p as N w (osOf p N w)).map λx=>some x.2;delta kof;rw[O,aH];refine eS λa T=>?_;obtain⟨o,e⟩:=cK.mp (bf.mp M a T);show s.abs.heap.get? a=some ((s.abs.heap.get? a).getD _);rw[e];rfl
end HD
namespace K62
local macro_rules|`(tactic| walk_at "s")=>`(tactic| exact⟨rfl,rfl,rfl,by decide+kernel,rfl,by decide+kernel,by decide+kernel⟩)
open PySem PySem.W PyProof.Rows HD
def top(i:Nat):Stmt:=PySem.Challenge.pw_doubthall_k62_asks_refused.main.body.getD i (.Pass ⟨0,0,0,0⟩)
noncomputable def ka:List Addr:=[2,3,25,26,32,33,39,40,44,45,49,50,54,55,61,62,68,69,75,76,82,83,89,90,96,97,101,102,108,109,115,116,122,123,129,130,136,137,143,144,145,149,150,159,160,179,180,239,240,251,252,263,264,275,276,287,288,299,300,311,312,320,321,327,328,332,333,339,340,353,354,367,368,370,371,388,389,395,396,398,399,414,415,419,420,422,423,438,439,445,446,448,449,464,465,467,468,474,475,476,480,481,487,488,492,493,494,500,501,507,508,514,515,519,520,526,527,533,534,538,539,543,544,548,549,553,554,558,559,565,566,570,571,577,578,582,583,589,590,596,597,603,604,608,609,615,616,620,621,627,628,634,635,639,640,644,645,649,650,665,671,672,678,679,690,691,693,694,704,705,711,712,718,719,725,726,732,733,739,740,746,747,753,754,760,761,767,768,774,775,781,782,788,789,793,794,798,799,803,804]
@[irreducible] def kk:=kof PySem.Challenge.pw_doubthall_k62_asks_refused ka 6856
theorem h_said:lH PySem.Challenge.rw_doubthall_k62_asks_refused=true:=by kernel_rfl
def h_one(w:cf)(os:ib):end_ PySem.Challenge.pw_doubthall_k62_asks_refused (only PySem.Challenge.pw_doubthall_k62_asks_refused (top 107)) ka w os 6856=some (true,openGood (only PySem.Challenge.pw_doubthall_k62_asks_refused (top 107)) (XV PySem.Challenge.pw_doubthall_k62_asks_refused),true):=by kernel_rfl
end K62
namespace L2
open PySem PySem.Spec PyProof.Rows
abbrev Key:=Sum Int Str
def keyIs:Key->Value->Bool
 |.inl k,v=>Value.isInt k v
 |.inr x,v=>ge x v
noncomputable def keyH(w:cf):Key->Int
 |.inl k=>hashInt k
 |.inr x=>hashStr w x
theorem QK:∀{k:Key}{v:Value},keyIs k v=true->(∃i t,k=i2 i/\v=Value.int i t)\/(∃x t,k=ke x/\v=Value.str x t)
 |.inl i,v,h=>by
  obtain⟨t,e⟩:=Value.isInt_shape h;exact .inl ⟨i,t,rfl,e⟩
 |.inr x,v,h=>by
  obtain⟨t,e⟩:=Value.isStrOf_shape h;exact .inr ⟨x,t,rfl,e⟩
def key_ll a b:decide ((i2 a:Key)=i2 b)=(a==b):=by
 by_cases e:a=b
 .subst e;simp
 .have h:¬(i2 a:Key)=i2 b:=λq=>e (i2.inj q);rw[aX h];exact(aW.mpr e).symm
def key_rr a b:decide ((ke a:Key)=ke b)=decide (a=b):=by
 grind
def key_lr a b:decide ((i2 a:Key)=ke b)=false:=by grind
def key_rl a b:decide ((ke a:Key)=i2 b)=false:=by grind
def QgC prog w:PySem.KeyKind prog w Key where
 is:=keyIs
 hash:=keyH w
 inj:=λv a b B l=>by
  rcases QK B with⟨i,t,rfl,rfl⟩|⟨x,t,rfl,rfl⟩
  .rcases QK l with⟨j,u,rfl,e⟩|⟨y,u,rfl,e⟩
   .injection e with e1 _;rw[e1]
   .exact nomatch e
  .rcases QK l with⟨j,u,rfl,e⟩|⟨y,u,rfl,e⟩
   .exact nomatch e
   .injection e with e1 _;rw[e1]
 byValue:=λk v h=>by
  rcases QK h with⟨i,t,rfl,rfl⟩|⟨x,t,rfl,rfl⟩<;>rfl
 pyHash:=λf h=>by
  rcases QK f with⟨i,t,rfl,rfl⟩|⟨x,t,rfl,rfl⟩
  .exact wpAny_pyHash_int h
  .exact wpAny_pyHash_str h
 eqBool:=λD f h=>by
  rcases QK D with⟨i,t,rfl,rfl⟩|⟨x,t,rfl,rfl⟩
  .rcases QK f with⟨j,u,rfl,rfl⟩|⟨y,u,rfl,rfl⟩
   .rw[key_ll]at h;exact wpAny_eqBool_int h
   .exact kO.int_str i t y u _ _ _ _ h
  .rcases QK f with⟨j,u,rfl,rfl⟩|⟨y,u,rfl,rfl⟩
   .exact kO.str_int x t j u _ _ _ _ h
   .rw[key_rr]at h;exact ir h
 «strs»:=λk x t v h=>by
  rcases QK h with⟨i,u,rfl,e⟩|⟨y,u,rfl,e⟩
  .exact nomatch e
  .injection e with e1 _
   subst e1;cases v<;>rfl
inductive V where
 |non | bl (b:Bool) | int (i:Int) | str (x:Str) | byt (b:Array UInt8) | flt (b:UInt64) | ref (a:Addr) | ty (n:String)
 deriving DecidableEq
def RelV:V->Value->Prop
 |.non,u=>u=de
 |.bl b,u=>u=eI b
 |.int i,u=>∃t,u=Value.int i t
 |.str x,u=>∃t,u=Value.str x t
 |.byt b,u=>∃t,u=Value.bytes b t
 |.flt b,u=>∃t,u=Value.float b t
 |.ref a,u=>u=cR a
 |.ty n,u=>u=Value.type n
abbrev Vals:List V->List Value->Prop:=Paired RelV
def Vals.length(r:Vals xs us):xs.length=us.length:=Paired.length r
theorem Vals.get:∀{xs:List V}{us:List Value}{i:Nat}{x:V},Vals xs us->xs[i]?=some x->∃u,us[i]?=some u/\RelV x u
 |_,_,_,_,.nil,e=>by simp at e
 |_,_,0,_,.cons r _,e=>by simp at e;subst e;exact⟨_,rfl,r⟩
 |_,_,i+1,x,.cons _ t,e=>by
  obtain⟨u,h1,h2⟩:=Vals.get t (by simpa using e);exact⟨u,by simpa using h1,h2⟩
theorem Vals.set{x:V}{u:Value}(r:RelV x u):∀{xs:List V}{us:List Value}(i:Nat),Vals xs us->Vals (xs.set i x) (us.set i u)
 |_,_,_,.nil=>.nil
 |_,_,0,.cons _ t=>.cons r t
 |_,_,i+1,.cons q t=>.cons q (Vals.set r i t)
def Vals.append:∀{xs ys:List V}{us ws:List Value},Vals xs us->Vals ys ws->Vals (xs++ys) (us++ws):=by
 intro xs ys us ws h s;induction h with
 |nil=>exact s
 |cons r t f=>exact .cons r f
theorem Vals.take:∀{xs:List V}{us:List Value} n,Vals xs us->Vals (xs.take n) (us.take n)
 |_,_,0,_=>.nil
 |_,_,_+1,.nil=>.nil
 |_,_,n+1,.cons r t=>.cons r (Vals.take n t)
theorem Vals.drop:∀{xs:List V}{us:List Value}(n:Nat),Vals xs us->Vals (xs.drop n) (us.drop n)
 |_,_,0,r=>r
 |_,_,_+1,.nil=>.nil
 |_,_,n+1,.cons _ t=>Vals.drop n t
def RelO:Option V->Option Value->Prop
 |some v,some u=>RelV v u
 |none,none=>True
 |_,_=>False
def KV{κ:Type}:List (κ×V)->List (κ×Value)->Prop:=Paired λp q=>p.1=q.1/\RelV p.2 q.2
def kV:Key->V
 |.inl i=>.int i
 |.inr x=>.str x
inductive HO where
 |lst (xs:List V)
 |tup (xs:List V)
 |dK (kvs:List (Key×V)) | dT (kvs:List (List Key×V))
 |set (S:Int->Bool) (n:Nat)
 |ins (C dx:Addr) (fs:List (Str×V))
 |own (x:Addr)
 |xd (fs:List (Str×V))
 |met (f x:Addr)
 |rng (lo hi:Int)
 |frz (o:Obj) (u:HO)
 |tbl (ps:Array Value)
 |ext (φ:Heap->Prop)
abbrev Hp:=Addr->Option HO
def upd(H:Hp)(a:Addr)(o:HO):Hp:=λb=>if b=a then some o else H b
theorem Qf:upd H a o a=some o:=by delta upd;grind
def Qh(h:b≠a):upd H a o b=H b:=by delta upd;grind
def Qg{H:Hp}(h:H a=some o)(f:H b=none):a≠b:=by
 grind
section
def Xb(h:Heap)(a:Addr)(items:Array Value)(xs:List V):Prop:=∃o,h.get? a=some o/\o.cls = .type "tuple"/\(o.dict=none\/∃i y,xs=[V.int i,y])/\∃n,o.data = .seq items n
def Xb.is(x:Xb h a items xs):IsTup h a items:=let ⟨o,h1,h2,_,f⟩:=x;⟨o,h1,h2,f⟩
def Xb.new(h:Heap) items xs:Xb (h.push { cls := .type "tuple",data := .seq items }) h.objs.size items xs:=⟨_,ay _ rfl,rfl,.inl rfl,_,rfl⟩
def Xb.pair(x:IsTup h a items):Xb h a items [V.int i,y]:=let ⟨o,h1,h2,f⟩:=x;⟨o,h1,h2,.inr ⟨i,y,rfl⟩,f⟩
variable(P:aY)(w:cf) in noncomputable def ObjOk (H:Hp) (h:Heap) (a:Addr):HO->Prop
 |.lst xs=>xs.length<=aI/\∃its n,Vals xs its/\h.get? a=some { cls := .type "list",data := .seq its.toArray n }
 |.tup xs=>xs.length<=aI/\∃its ,Vals xs its/\Xb h a its.toArray xs
 |.dK kvs=>kvs.length<=aI/\(a==sysModules)=false/\∃vs,KV kvs vs/\h.DictOf (QgC P w) a vs
 | .dT kvs=>kvs.length<=aI/\(a==sysModules)=false/\∃xs ,
   Paired (λp q=>p.1=q.1/\H q.2.1=some (.tup (p.1.map kV))/\RelV p.2 q.2.2) kvs xs /\
   ∃o es ep,h.get? a=some o/\o.ExactDict/\o.data = .dict es ep/\es.toList=xs.map (entryOfKey (tupleKind (QgC P w)))/\(xs.map (·.1)).Nodup
 |.set S n=>h.SetOf (intKind P w) a S n
 | .ins C dx fs=>H dx=some (.own a)/\fs.length<=1000/\dx≠a/\h.get? a=some (eV C dx) /\
   ∃mA,h.Ns1 dx mA/\(∀f,RelO (fs.lookup f) (mA f))/\kg mA (fs.map (·.1))
 |.own _=>∃o,h.get? a=some o
 |.xd fs=>∃mA,h.Ns1 a mA/\∀f,RelO (fs.lookup f) (mA f)
 |.rng lo hi=>∃t u v,h.get? a=some { cls := .type "range",data := .fields #[.int lo t,.int hi u,.int 1 v] }
 |.frz o u=>h.get? a=some o/\ObjOk H h a u
 |.tbl ps=>h.get? a=some { cls := .none,data := .fields ps }
 |.met f x=>h.get? a=some (PySem.W.methodObj (.ref f) (.ref x))
 |.ext φ=>φ h/\(∃o,h.get? a=some o)/\∀h1 h2 ,φ h1->(∀o,h1.get? a=some o->h2.get? a=some o)->φ h2
def HOk(P:aY)(w:cf)(H:Hp)(h:Heap):Prop:=∀a o,H a=some o->ObjOk P w H h a o
end
section
def ObjOk.lt{P:aY}{h:Heap}(x:ObjOk P w H h a o):a<h.objs.size:=by
 cases o with
 |lst xs=>obtain⟨_,_,_,_,e⟩:=x;exact aD e
 |tup xs=>obtain⟨_,_,_,p⟩:=x;exact p.is.lt
 |set S n=>obtain⟨o,_,_,_,e,_⟩:=x;exact aD e
 |ins C l fs=>obtain⟨_,_,_,e,_⟩:=x;exact aD e
 |own y=>obtain⟨_,e⟩:=x;exact aD e
 |xd fs=>obtain⟨_,⟨_,_,_,e,_⟩,_⟩:=x;exact aD e
 |rng lo B=>obtain⟨_,_,_,e⟩:=x;exact aD e
 |frz ob u=>obtain⟨e,_⟩:=x;exact aD e
 |tbl ps=>exact aD (x)
 |met f y=>exact aD (x)
 |ext D=>obtain⟨_,⟨_,e⟩,_⟩:=x;exact aD e
 |_=>obtain⟨_,_,_,_,o,_,_,e,_⟩:=x;exact aD e
def Paired.mapP:∀{l₁:List α}{l:List B},Paired F l₁ l->(∀a b,F a b->G a b)->Paired G l₁ l:=by
 intro l₁ l h f;induction h with
 |nil=>exact .nil
 |cons r t j=>exact .cons (f _ _ r) j
def ObjOk.stay{P:aY}{h:Heap}{J:Heap}(x:ObjOk P w H h a o)(k:∀b u,(b=a\/H b=some (.own a))->h.get? b=some u->J.get? b=some u)(ho:∀b,H b=some (.own a)->L b=some (.own a))(M:∀b xs,H b=some (.tup xs)->L b=some (.tup xs)):ObjOk P w L J a o:=by
 induction o with
 |lst xs=>obtain⟨z,B,n,r,e⟩:=x;exact⟨z,B,n,r,k _ _ (.inl rfl) e⟩
 |tup xs=>obtain⟨z,B,r,ob,e,c⟩:=x;exact⟨z,B,r,ob,k _ _ (.inl rfl) e,c⟩
 |dK D=>obtain⟨z,y,vs,r,ob,j,l,e,c⟩:=x;exact⟨z,y,vs,r,ob,j,l,k _ _ (.inl rfl) e,c⟩
 |dT D =>
  obtain⟨z,y,xs,r,ob,j,l,e,c⟩:=x;exact⟨z,y,xs,Paired.mapP r λp q z=>⟨z.1,M _ _ z.2.1,z.2.2⟩,ob,j,l,k _ _ (.inl rfl) e,c⟩
 |set S n=>obtain⟨ob,j,l,t,e,c⟩:=x;exact⟨ob,j,l,t,k _ _ (.inl rfl) e,c⟩
 |ins C T fs =>
  obtain⟨d,z,ne,e,E,⟨I,j,l,e2,c⟩,r⟩:=x;exact⟨ho _ d,z,ne,k _ _ (.inl rfl) e,E,⟨I,j,l,k _ _ (.inr d) e2,c⟩,r⟩
 |own y=>obtain⟨ob,e⟩:=x;exact⟨ob,k _ _ (.inl rfl) e⟩
 |xd fs=>obtain⟨E,⟨I,j,l,e,c⟩,r⟩:=x;exact⟨E,⟨I,j,l,k _ _ (.inl rfl) e,c⟩,r⟩
 |rng lo U=>obtain⟨t,u,v,e⟩:=x;exact⟨t,u,v,k _ _ (.inl rfl) e⟩
 |frz ob u O=>obtain⟨e,q⟩:=x;exact⟨k _ _ (.inl rfl) e,O q⟩
 |tbl ps =>
  have e :=x;exact k a _ (.inl rfl) e
 |met f y =>
  have e :=x;exact k a _ (.inl rfl) e
 |ext Y=>obtain⟨p,⟨o,e⟩,st⟩:=x;exact⟨st _ _ p λo q=>k _ _ (.inl rfl) q,⟨o,k _ _ (.inl rfl) e⟩,st⟩
def HOk.lt{P:aY}{h:Heap}(x:HOk P w H h)(e:H a=some o):a<h.objs.size:=(x a o e).lt
def HOk.fresh{P:aY}{h:Heap}(x:HOk P w H h)(e:h.objs.size<=a):H a=none:=by
 cases q:H a with
 |none=>rfl
 |some u=>exact absurd (aF (x.lt q) e) (b4 _)
def HOk.kept{P:aY}{h:Heap}{f:Heap}(x:HOk P w H h)(k:∀b u,h.get? b=some u->f.get? b=some u):HOk P w H f:=λa o e =>
 (x a o e).stay (λb u _ q=>k b u q) (λ_ q=>q) λ_ _ q=>q
def HOk.laid{P:aY}{h:Heap}{f:Heap}(x:HOk P w H h)(k:∀b u,h.get? b=some u->f.get? b=some u)(B:h.objs.size<=a)(new:ObjOk P w (upd H a o) f a o):HOk P w (upd H a o) f:=λb u e=>by
 have j:=x.fresh B;by_cases l:b=a
 .subst l;rw[Qf]at e;cases e;exact new
 .rw[Qh l]at e;exact(x b u e).stay (λc v _ q=>k c v q) (λc q=>by rw[Qh (Qg q j)];exact q) λc xs q=>by rw[Qh (Qg q j)];exact q
end
def Rd(H:Hp)(a:Addr)(u:HO):Prop:=H a=some u\/∃o,H a=some (.frz o u)
def Rd.ok(r:Rd H a u)(x:HOk P w H h):ObjOk P w H h a u:=by
 rcases r with r|⟨o,r⟩
 .exact x a u r
 .obtain⟨_,q⟩:=x a _ r;exact q
def Mut:Option HO->Prop
 |some (.lst _)=>True
 |some (.dK _)=>True
 |some (.dT _)=>True
 |some (.set _ _)=>True
 |some (.ins _ _ _)=>True
 |some (.ext _)=>True
 |_=>False
section
def HOk.write{P:aY}{h:Heap}{B:Heap}(ok:HOk P w H h)(D:Mut (H x))(he:e=x\/H e=some (.own x))(k:∀b u,b≠e->h.get? b=some u->B.get? b=some u)(I:∃u,B.get? e=some u)(new:ObjOk P w (upd H x J) B x J):HOk P w (upd H x J) B:=λb u q=>by
 have j:∀c y,H c=some (.own y)->c≠x:=λc y r z=>by subst z;rw[r]at D;exact D
 have l:∀c xs,H c=some (.tup xs)->c≠x:=λc xs r z=>by subst z;rw[r]at D;exact D
 by_cases E:b=x
 .subst E;rw[Qf]at q;cases q;exact new
 .rw[Qh E]at q;by_cases f:b=e
  .have L:H b=some (.own x):=by
    rcases he with z | z
    .exact absurd (f.trans z) E
    .rw[f];exact z
   rw[q]at L;cases L;obtain⟨v,M⟩:=I;exact⟨v,by rw[f];exact M⟩
  .refine(ok b u q).stay (λc v hc r=>k c v ?_ r) (λc r=>by rw[Qh (j c b r)];exact r) λc xs r=>by rw[Qh (l c xs r)];exact r
   rcases hc with rfl | hc
   .exact f
   .rintro rfl;rcases he with z | z
    .exact j c b hc z
    .rw[hc]at z;cases z;exact E rfl
end
structure Un (fs ex:List Addr) (H H':Hp) (h h':Heap):Prop where
 keep:∀b o,h.get? b=some o->H b=none->b∉fs->b∉ex->h'.get? b=some o
 slot:∀b o,h.get? b=some o->H b=none->b∈fs->b∉ex->∃sl,h'.get? b=some { o with slots:=sl }
 free:∀b o,h.get? b=some o->H b=none->b∉ex->H' b=none
 there:∀b o,h.get? b=some o->b∉ex->∃o',h'.get? b=some o'
 tups:∀b xs,H b=some (.tup xs)->H' b=some (.tup xs)
 frzs:∀b o u,H b=some (.frz o u)->H' b=some (.frz o u)
 tbls:∀b ps,H b=some (.tbl ps)->∃more,H' b=some (.tbl (ps++more))
section
def Un.any(u:Un fs ex H B h h1){b:Addr}{ob:Obj}(q:h.get? b=some ob)(n:H b=none)(f:b∉ex):∃l,h1.get? b=some { ob with slots:=l }:=by
 by_cases j:b∈fs
 .exact u.slot b ob q n j f
 .exact⟨ob.slots,u.keep b ob q n j f⟩
def Un.trans(a:Un fs ex H B h h1)(b:Un fs ex B D h1 h2):Un fs ex H D h h2 where
 keep:=λc ob q n hc f=>b.keep c ob (a.keep c ob q n hc f) (a.free c ob q n f) hc f
 slot:=λc ob q n hc f=>by
  obtain⟨J,e1⟩:=a.slot c ob q n hc f;obtain⟨l,e2⟩:=b.slot c _ e1 (a.free c ob q n f) hc f;exact⟨l,e2⟩
 free:=λc ob q n f=>by
  obtain⟨j,e1⟩:=a.there c ob q f;exact b.free c j e1 (a.free c ob q n f) f
 there:=λc ob q f=>by
  obtain⟨j,e1⟩:=a.there c ob q f;exact b.there c j e1 f
 tups:=λc xs q=>b.tups c xs (a.tups c xs q)
 frzs:=λc ob xs q=>b.frzs c ob xs (a.frzs c ob xs q)
 tbls:=λc ps q=>by
  obtain⟨E,e1⟩:=a.tbls c ps q;obtain⟨I,e2⟩:=b.tbls c _ e1;exact⟨E++I,by rw[e2,iT]⟩
def Un.kept(k:∀b u,h.get? b=some u->f.get? b=some u):Un fs ex H H h f :=
 ⟨λb ob q _ _ _=>k b ob q,λb ob q _ _ _=>⟨ob.slots,k b ob q⟩,λ_ _ _ n _=>n,λb ob q _=>⟨ob,k b ob q⟩,λ_ _ q=>q,λ_ _ _ q=>q,λ_ ps q=>⟨#[],by rw[q];simp⟩⟩
def Un.refl:Un fs ex H H h h:=Un.kept λ_ _ q=>q
def Un.laid(k:∀b u,h.get? b=some u->l.get? b=some u)(B:h.objs.size<=a)(f:H a=none):Un fs ex H (upd H a o) h l where
 keep:=λb u q _ _ _=>k b u q
 slot:=λb u q _ _ _=>⟨u.slots,k b u q⟩
 free:=λb u q n _=>by rw[Qh (aL (aF (aD q) B))];exact n
 there:=λb u q _=>⟨u,k b u q⟩
 tups:=λb xs q=>by rw[Qh (Qg q f)];exact q
 frzs:=λb u xs q=>by rw[Qh (Qg q f)];exact q
 tbls:=λb ps q=>⟨#[],by rw[Qh (Qg q f),q];simp⟩
def Un.write(l:Mut (H x))(he:e=x\/H e=some (.own x))(k:∀b u,b≠e->h.get? b=some u->D.get? b=some u)(B:∃u,D.get? e=some u):Un fs ex H (upd H x o) h D:=by
 have j:∀b,H b=none->b≠x:=λb n z=>by subst z;rw[n]at l;exact l
 have E:∀b,H b=none->b≠e:=λb n z=>by
  subst z;rcases he with r | r
  .exact j b n r
  .rw[n]at r;cases r
 have hm:∀b u,H b=some u->¬Mut (some u)->b≠x:=λb u q nm z=>by subst z;rw[q]at l;exact nm l
 refine⟨λb u q n _ _=>k b u (E b n) q,λb u q n _ _=>⟨u.slots,k b u (E b n) q⟩,λb u q n _=>by rw[Qh (j b n)];exact n,λb u q _=>?_,
  λb xs q=>by rw[Qh (hm b _ q λz=>z)];exact q,λb u xs q=>by rw[Qh (hm b _ q λz=>z)];exact q,λb ps q=>⟨#[],by rw[Qh (hm b _ q λz=>z),q];simp⟩⟩
 by_cases f:b=e
 .subst f;exact B
 .exact⟨u,k b u f q⟩
end
def trk(h:Heap)(H:Hp):List Addr:=(ao h.objs.size).filter λa=>(H a).isSome
def hidT(h:Heap)(H:Hp):Heap:=js h (trk h H)
def Qmy h H:(hidT h H).objs.size=h.objs.size:=PySem.W.hideAll_size _ _
def hidT_get(e:h.get? b=some o)(n:H b=none):(hidT h H).get? b=some o :=
 fS _ e λhm=>by
  have q :=(bc.mp hm).2;grind
def of_hidT(e:(hidT h H).get? b=some o):h.get? b=some o/\H b=none:=by
 have f :=lA (trk h H) e;refine⟨f,?_⟩;cases q:H b with
 |none=>rfl
 |some x =>
  have hm:b∈trk h H:=bc.mpr ⟨a7.mpr (aD f),by simp[q]⟩;have z:(hidT h H).get? b=none:=kQ (trk h H) hm;rw[z]at e;cases e
def allNews(g h:Heap)(L:Addr):List (Addr×Obj):=(ao h.objs.size).filterMap λa=>if a=L\/(g.get? a).isSome=true then none else (h.get? a).map λo=>(a,o)
def rest(g h:Heap)(L d:Addr):List (Addr×Obj):=(allNews g h L).filter λp=>decide (p.1≠d)
structure Mod (K:aa) (mg:Str->Option Value) (base:Heap):Prop where
 kin:K.In base
 glob:base.Ns dt mg
 blt:∃mb,base.Ns builtinsNs mb/\∀x:Str,x≠"__name__"->mb x=cI x
 nolimit:base.NoLimit
structure Cx where
 prog:aY
 w:cf
 K:aa
 mg:Str->Option Value
 base:Heap
 A:dm
 N:List Str
 s₀:aC
 H₀:Hp
 env:Env
 outer:List Env
 stack:List Env
 ex:List Addr
 fn:Str->Bool
 calm:Bool
 pn:List (Addr×Obj)
 xe:Value->aC->Prop
noncomputable def frs(l:List Env):List Addr:=l.filterMap (·.frame)
abbrev Cx.fs(X:Cx):List Addr:=frs X.outer
def Vis(f:fN)(x:Str):Prop:=f.names.lookup x=some .local\/f.names.lookup x=some .cell\/f.names.lookup x=some .free
def Loc(f:fN)(x:Str):Prop:=f.names.lookup x=some .local\/f.names.lookup x=some .cell
def Look(env:Env)(h:Heap)(m:Str->Option Value)(x:Str)(u:Value):Prop :=
 (env.kindOf x=some .local/\m x=some u)\/((env.kindOf x=some .cell\/env.kindOf x=some .free)/\∃c,env.cells.lookup x=some c/\h.IsCell c (some u))
structure Cx.Ok (X:Cx):Prop where
 mod:Mod X.K X.mg X.base
 kind:X.env.scope.kind = .function
 glob:X.env.globals=dt
 blt:X.env.builtins=builtinsNs
 above:X.s₀.heap.objs.size<=X.env.locals
 inj:∀x y c,X.env.cells.lookup x=some c->X.env.cells.lookup y=some c->x=y
 has:∀x,(X.env.kindOf x=some .cell\/X.env.kindOf x=some .free)->∃c,X.env.cells.lookup x=some c
 cab:∀x c,X.fn x=true->X.env.cells.lookup x=some c->X.s₀.heap.objs.size<=c
 hd:X.calm=true->X.A.handled=none
 frames:X.A.frames=some X.stack
 stk:X.stack=X.outer\/(X.stack=X.env::X.outer/\X.env.frame=some X.env.locals)
 exf:∀b∈X.ex,b≠X.env.locals/\∀x c,X.env.cells.lookup x=some c->c≠b
 bs:∀b o,X.base.get? b=some o->X.s₀.heap.get? b=some o/\X.H₀ b=none
 bsz:X.base.objs.size<=X.s₀.heap.objs.size
 noex:∀b o,X.base.get? b=some o->b∉X.ex
 exfs:∀b∈X.ex,b∉X.fs
 funs:X.s₀.heap.FunFrames X.base X.outer
 frf:∀b∈X.fs,X.H₀ b=none
structure Inv (X:Cx) (pins:List (Addr×Obj)) (σ:List (Option V)) (H:Hp) (s:aC):Prop where
 ok:X.Ok
 os:s.os=X.s₀.os
 bare:iU s.gens
 base:Un X.fs X.ex X.H₀ H X.s₀.heap s.heap
 loc:∃m,s.heap.Ns X.env.locals m/\∀(i:Nat)(x:Str)(v:V),X.N[i]?=some x->σ[i]?=some (some v)->Vis X.env.scope x->∃u,RelV v u/\Look X.env s.heap m x u
 cell:∀x c,X.env.cells.lookup x=some c->∃v,s.heap.IsCell c v
 free:H X.env.locals=none
 freeC:∀x c,X.env.cells.lookup x=some c->H c=none
 pin:∀p∈X.pn++pins,s.heap.get? p.1=some p.2/\H p.1=none/\p.1≠X.env.locals/\p.1∉X.fs/\∀v,p.2.data≠.cell v
 hok:HOk X.prog X.w H s.heap
 len:σ.length=X.N.length
section
def Cx.Ok.nofr{X:Cx}(ok:X.Ok)(e:X.base.get? b=some o):b∉X.fs:=λf=>by
 have:=(ok.funs.mem f).1;grind
def Inv.bs{X:Cx}{s:aC}(I:Inv X f l H s):∀b o,X.base.get? b=some o->s.heap.get? b=some o/\H b=none:=λb o e =>
 ⟨I.base.keep b o (I.ok.bs b o e).1 (I.ok.bs b o e).2 (I.ok.nofr e) (I.ok.noex b o e),I.base.free b o (I.ok.bs b o e).1 (I.ok.bs b o e).2 (I.ok.noex b o e)⟩
def Inv.bk{X:Cx}{s:aC}(I:Inv X f l H s):∀b o,X.base.get? b=some o->s.heap.get? b=some o:=λb o e=>(I.bs b o e).1
def Inv.mod{X:Cx}(I:Inv X f l H s):Mod X.K X.mg X.base:=I.ok.mod
def Inv.kIn{X:Cx}{s:aC}(I:Inv X f l H s):X.K.In s.heap:=I.ok.mod.kin.keeps I.bk
def Inv.lt{X:Cx}{s:aC}(I:Inv X f l H s):X.env.locals<s.heap.objs.size:=let ⟨_,j,_⟩:=I.loc;j.lt
def Inv.sz{X:Cx}{s:aC}(I:Inv X f l H s):X.s₀.heap.objs.size<=s.heap.objs.size:=aS I.ok.above (b8 I.lt)
def Inv.nofs{X:Cx}{s:aC}(I:Inv X f l H s)(h:s.heap.objs.size<=a):a∉X.fs:=λj=>by
 obtain⟨_,o,ho,_⟩:=I.ok.funs.mem j;exact absurd (aF (aD ho) (aS I.sz h)) (b4 _)
def Inv.cne{X:Cx}(I:Inv X f B H s):∀x c,X.env.cells.lookup x=some c->c≠X.env.locals:=λx c e z=>by
 obtain⟨v,o,ho,hd⟩:=I.cell x c e;obtain⟨m,⟨D,E,J,j,l,_⟩,_⟩:=I.loc;grind
def Inv.funs{X:Cx}{s:aC}(I:Inv X B O H s):s.heap.FunFrames X.base X.outer:=by
 have all:∀l,(∀b∈frs l,b∈X.fs)->X.s₀.heap.FunFrames X.base l->s.heap.FunFrames X.base l:=by
  intro l;induction l with
  |nil=>intro _ _;trivial
  |cons env r E =>
   intro D hl;obtain⟨J,⟨L,o,hf,M,ho,hd⟩,hr⟩:=hl;have f :=D L (by delta frs;rw[fV,hf];exact bB);obtain⟨T,e⟩:=I.base.slot L o ho (I.ok.frf L f) f λz=>I.ok.exfs L z f;exact⟨J,⟨L,_,hf,M,e,hd⟩,E (λb j=>D b (by delta frs;rw[fV,hf];exact ax _ j)) hr⟩
 exact all X.outer (λ_ j=>j) I.ok.funs
def Inv.stack{X:Cx}{s:aC}(I:Inv X f l H s):s.heap.FunFrames X.base X.stack:=by
 rcases I.ok.stk with e|⟨e,hf⟩
 .rw[e];exact I.funs
 .rw[e];obtain⟨m,j,_⟩:=I.loc;refine .cons (by rw[I.ok.kind];decide) hf j ?_ I.funs;exact Heap.get?_none_of_le (aS I.ok.bsz I.ok.above)
def Inv.stkSub  (I:Inv X l B H s):∀b∈frs X.stack,b∈X.env.locals::X.fs:=λb f=>by
 rcases I.ok.stk with e|⟨e,hf⟩
 .rw[e]at f;exact ax _ f
 .rw[e]at f;delta frs at f;rw[fV,hf]at f;exact f
def Inv.stkFree  (I:Inv X l B H s):∀b∈frs X.stack,H b=none:=λb f=>by
 rcases ap.mp (I.stkSub b f) with e | f
 .rw[e];exact I.free
 .obtain⟨_,o,ho,_⟩:=I.ok.funs.mem f;exact I.base.free b o ho (I.ok.frf b f) λz=>I.ok.exfs b z f
def Inv.step{s:aC}{L:Heap}{g':Array GenState}{t':Nat}{d':Drawn}{ch:List Addr}(I:Inv X J σ H s)(B:∀b∈ch,(b∈X.ex\/X.s₀.heap.objs.size<=b)/\b≠X.env.locals/\(∀x c,X.env.cells.lookup x=some c->c≠b)/\∀p∈X.pn++J,p.1≠b)(keep:∀b o,b≠X.env.locals->b∉X.fs->b∉ch->s.heap.get? b=some o->H b=none->L.get? b=some o)(slot:∀b o,b≠X.env.locals->b∈X.fs->b∉ch->s.heap.get? b=some o->H b=none->∃Y,L.get? b=some { o with slots:=Y })(free:∀b o,b∉ch->s.heap.get? b=some o->H b=none->O b=none)(there:∀b o,b∉ch->s.heap.get? b=some o->∃T,L.get? b=some T)(tups:∀b xs,H b=some (.tup xs)->O b=some (.tup xs))(frzs:∀b o u,H b=some (.frz o u)->O b=some (.frz o u))(tbls:∀b ps,H b=some (.tbl ps)->∃more,O b=some (.tbl (ps++more)))(ns:∀m,s.heap.Ns X.env.locals m->L.Ns X.env.locals m)(hok:HOk X.prog X.w O L)(hg:iU g') :
  Inv X J σ O { s with heap:=L,gens:=g',drawn:=d',toks:=t' }:=by
 have U:∀b o,X.s₀.heap.get? b=some o->b≠X.env.locals:=λb o e=>aL (aF (aD e) I.ok.above);have E:∀b o,X.s₀.heap.get? b=some o->b∉X.ex->b∉ch:=λb o e f M=>by
  rcases (B b M).1 with z | z
  .exact f z
  .exact absurd (aF (aD e) z) (b4 _)
 have j:∀x c,X.env.cells.lookup x=some c->∀v,s.heap.IsCell c v->L.IsCell c v:=λx c e v zz=>by
  obtain⟨o,ho,hd⟩:=zz;have D :=λz=>(B c z).2.2.1 x c e rfl;by_cases hc:c∈X.fs
  .obtain⟨Y,q⟩:=slot c o (I.cne x c e) hc D ho (I.freeC x c e);exact⟨_,q,hd⟩
  .exact⟨o,keep c o (I.cne x c e) hc D ho (I.freeC x c e),hd⟩
 refine⟨I.ok,I.os,hg,⟨λb o e n M f=>?_,λb o e n M f=>?_,λb o e n f=>?_,λb o e f=>?_,λb xs e=>tups b xs (I.base.tups b xs e),λb o xs e=>frzs b o xs (I.base.frzs b o xs e),λb ps e=>?_⟩,?_,λx c e=>?_,?_,λx c e=>?_,λp hp=>?_,hok,I.len⟩
 .exact keep b o (U b o e) M (E b o e f) (I.base.keep b o e n M f) (I.base.free b o e n f)
 .obtain⟨Y,e1⟩:=I.base.slot b o e n M f;obtain⟨av,e2⟩:=slot b _ (U b o e) M (E b o e f) e1 (I.base.free b o e n f);exact⟨av,e2⟩
 .obtain⟨T,e1⟩:=I.base.there b o e f;exact free b T (E b o e f) e1 (I.base.free b o e n f)
 .obtain⟨T,e1⟩:=I.base.there b o e f;exact there b T (E b o e f) e1
 .obtain⟨m1,e1⟩:=I.base.tbls b ps e;obtain⟨m2,e2⟩:=tbls b _ e1;exact⟨m1++m2,by rw[e2,iT]⟩
 .obtain⟨m,hn,hl⟩:=I.loc;refine⟨m,ns m hn,λi x v e1 e2 e3=>?_⟩;obtain⟨u,r,l⟩:=hl i x v e1 e2 e3;refine⟨u,r,?_⟩;rcases l with l|⟨k,c,e,z⟩
  .exact .inl l
  .exact .inr ⟨k,c,e,j x c e _ z⟩
 .obtain⟨v,z⟩:=I.cell x c e;exact⟨v,j x c e v z⟩
 .obtain⟨m,⟨o,_,_,ho,_⟩,_⟩:=I.loc;exact free _ o (λz=>(B _ z).2.1 rfl) ho I.free
 .obtain⟨v,o,ho,hd⟩:=I.cell x c e;exact free c o (λz=>(B c z).2.2.1 x c e rfl) ho (I.freeC x c e)
 .obtain⟨e,n,ne,nf,d⟩:=I.pin p hp;have D :=λz=>(B p.1 z).2.2.2 p hp rfl;exact⟨keep p.1 p.2 ne nf D e n,free p.1 p.2 D e n,ne,nf,d⟩
def Inv.un{X:Cx}{s:aC}(I:Inv X f M H s)(u:Un X.fs [] H J s.heap L)(hok:HOk X.prog X.w J L):Inv X f M J { s with heap:=L,toks:=t' }:=by
 obtain⟨m,⟨o,T,U,ho,r⟩,_⟩:=id I.loc;obtain⟨Y,E⟩:=u.any ho I.free (by simp);exact I.step (ch:=[]) (by grind) (λb o _ l _ e n=>u.keep b o e n l (by simp)) (λb o _ l _ e n=>u.slot b o e n l (by simp)) (λb o _ e n=>u.free b o e n (by simp)) (λb o _ e=>u.there b o e (by simp)) u.tups u.frzs u.tbls (λm' hm=>by
  obtain⟨o',B,D,j,O⟩:=hm;rw[ho]at j;cases j;exact⟨_,B,D,E,O⟩) hok I.bare
def Inv.call{s:aC}(I:Inv X f O H s)(u:Un (frs X.stack) ch H J s.heap M)(hok:HOk X.prog X.w J M)(T:iU U)(l:∀b∈ch,(b∈X.ex\/X.s₀.heap.objs.size<=b)/\b≠X.env.locals/\(∀x c,X.env.cells.lookup x=some c->c≠b)/\∀p∈X.pn++f,p.1≠b) :
  Inv X f O J { s with heap:=M,gens:=U,drawn:=d',toks:=t' }:=by
 obtain⟨m,⟨o,es,ep,ho,r⟩,_⟩:=id I.loc;obtain⟨sl,L⟩:=u.any ho I.free λz=>(l _ z).2.1 rfl;exact I.step l (λb o L E hc e n=>u.keep b o e n (λz=>(ap.mp (I.stkSub b z)).elim L E) hc) (λb o _ _ hc e n=>u.any e n hc) (λb o hc e n=>u.free b o e n hc) (λb o hc e=>u.there b o e hc) u.tups u.frzs u.tbls (λm' hm=>by
  obtain⟨o',B,D,j,Y⟩:=hm;rw[ho]at j;cases j;exact⟨_,B,D,L,Y⟩) hok T
def Inv.turned{s:aC}{l:Heap}(I:Inv X f B H s)(k:∀b o,b≠it->s.heap.get? b=some o->l.get? b=some o)(D:H it=none)(L:it≠X.env.locals)(h1:it∈X.ex\/X.s₀.heap.objs.size<=it)(h2:∀x c,X.env.cells.lookup x=some c->c≠it)(J:∀p∈X.pn++f,p.1≠it):Inv X f B H { s with heap:=l,toks:=t' }:=by
 have j:∀b u,H b=some u->b≠it:=λb u e z=>by rw[z,D]at e;cases e
 refine I.step (ch:=[it]) (λb E=>?_) (λb o _ _ hc e _=>k b o (λz=>hc (by simp[z])) e) (λb o _ _ hc e _=>⟨o.slots,k b o (λz=>hc (by simp[z])) e⟩) (λ_ _ _ _ n=>n)
  (λb o hc e=>⟨o,k b o (λz=>hc (by simp[z])) e⟩) (λ_ _ e=>e) (λ_ _ _ e=>e) (λb ps e=>⟨#[],by rw[e];simp⟩) (λm hm=>?_) (λb u e=>?_) I.bare
 .have e :=by simpa using E
  subst e;exact⟨h1,L,h2,J⟩
 .obtain⟨o,M,O,ho,r⟩:=hm;exact⟨o,M,O,k _ o (Ne.symm L) ho,r⟩
 .refine(I.hok b u e).stay (λc v hc q=>k c v ?_ q) (λ_ q=>q) λ_ _ q=>q;rcases hc with z | z
  .rw[z];exact j b u e
  .exact j c _ z
def Inv.tok{X:Cx}(I:Inv X f l H s) t:Inv X f l H { s with toks:=t }:=I.un Un.refl I.hok
def Inv.kept{X:Cx}{s:aC}{l:Heap}{t':Nat}(I:Inv X f B H s)(k:∀b u,s.heap.get? b=some u->l.get? b=some u):Inv X f B H { s with heap:=l,toks:=t' }:=I.un (Un.kept k) (I.hok.kept k)
def Inv.laid{X:Cx}{s:aC}{l:Heap}{a:Addr}{o:HO}{t':Nat}(I:Inv X f D H s)(k:∀b u,s.heap.get? b=some u->l.get? b=some u)(B:s.heap.objs.size<=a)(new:ObjOk X.prog X.w (upd H a o) l a o) :
  Inv X f D (upd H a o) { s with heap:=l,toks:=t' }:=I.un (Un.laid k B (I.hok.fresh B)) (I.hok.laid k B new)
def Inv.write{X:Cx}{s:aC}{B:Heap}{x e:Addr}{o:HO}{t':Nat}(I:Inv X f J H s)(D:Mut (H x))(he:e=x\/H e=some (.own x))(k:∀b u,b≠e->s.heap.get? b=some u->B.get? b=some u)(l:∃u,B.get? e=some u)(new:ObjOk X.prog X.w (upd H x o) B x o):Inv X f J (upd H x o) { s with heap:=B,toks:=t' }:=I.un (Un.write D he k l) (I.hok.write D he k l new)
def Inv.weak{X:Cx}{B:List (Option V)}(I:Inv X f B H s)(hl:l.length=B.length)(w:∀(i:Nat) v,l[i]?=some (some v)->B[i]?=some (some v)):Inv X f l H s :=
 ⟨I.ok,I.os,I.bare,I.base,let ⟨m,D,j⟩:=I.loc;⟨m,D,λi x v e1 e2 e3=>j i x v e1 (w i v e2) e3⟩,I.cell,I.free,I.freeC,I.pin,I.hok,hl.trans I.len⟩
def Inv.pins_of{X:Cx}{s:aC}(I:Inv X l B H s)(h:∀p∈f,s.heap.get? p.1=some p.2/\H p.1=none/\p.1≠X.env.locals/\p.1∉X.fs/\∀v,p.2.data≠.cell v):Inv X f B H s :=
 ⟨I.ok,I.os,I.bare,I.base,I.loc,I.cell,I.free,I.freeC,λp j=>(aP.mp j).elim (λz=>I.pin p (by grind)) (h p),I.hok,I.len⟩
def Qel{N:List Str}(f:N.Nodup){i j:Nat}(a:N[i]?=some x)(b:N[j]?=some x):i=j:=by
 obtain⟨h1,e1⟩:=aw.mp a;obtain⟨h2,e2⟩:=aw.mp b;exact(List.getElem_inj f).mp (e1.trans e2.symm)
def Qfk{X:Cx}{σ:List (Option V)}{s:aC}(I:Inv X U σ H s)(hN:X.N.Nodup)(Y:X.N[i]?=some x)(l:Loc X.env.scope x)(r:RelV v u)(h:∀s',Inv X U (σ.set i (some v)) H s'->(∃a,bR a s.heap s'.heap/\(a=X.env.locals\/X.env.cells.lookup x=some a))->Q () s')(hf:X.fn x=true\/X.env.scope.names.lookup x=some .local:=by first | exact .inl rfl | exact .inr rfl | assumption):aE M A (storeName X.env x u) Q E s:=by
 obtain⟨m,hn,hl⟩:=id I.loc;have av:(X.env.scope.kind==.class||(X.env.scope.kind==.module&&X.env.locals != X.env.globals))=false:=by rw[I.ok.kind];rfl
 have D:i<σ.length:=by rw[I.len];exact(aw.mp Y).1
 have cne:=I.cne;have tracked:∀{a:Addr}{T:Heap},(∃o,s.heap.get? a=some o/\H a=none)->bR a s.heap T->HOk X.prog X.w H T:=λ{a T} ha f b ob e=>by
  obtain⟨_,_,B⟩:=ha;refine(I.hok b ob e).stay (λc w' hc q=>(f.2 c ?_).trans q) (λ_ q=>q) λ_ _ q=>q;rintro rfl;rcases hc with rfl | hc
  .rw[B]at e;cases e
  .rw[B]at hc;cases hc
 rcases l with J | J
 .refine wpAny_storeName_local J hn (λT aJ f=>?_) av;obtain⟨oL,_,_,aZ,_⟩:=id hn;refine h _ ⟨I.ok,I.os,I.bare,⟨λb o e n L l=>?_,λb o e n L l=>?_,I.base.free,λb o e l=>?_,I.base.tups,I.base.frzs,I.base.tbls⟩,⟨_,aJ,λj y v' e1 e2 e3=>?_⟩,λy c e=>?_,I.free,I.freeC,λp hp=>?_,tracked ⟨oL,aZ,I.free⟩ f,by simpa using I.len⟩ ⟨_,f,.inl rfl⟩
  .exact(f.2 b (aL (aF (aD e) I.ok.above))).trans (I.base.keep b o e n L l)
  .obtain⟨sl,e1⟩:=I.base.slot b o e n L l;exact⟨sl,(f.2 b (aL (aF (aD e) I.ok.above))).trans e1⟩
  .obtain⟨o',e1⟩:=I.base.there b o e l;exact⟨o',(f.2 b (aL (aF (aD e) I.ok.above))).trans e1⟩
  .by_cases hj:j=i
   .subst hj;rw[Y]at e1;cases e1;rw[a0 D]at e2;cases e2;exact⟨u,r,.inl ⟨J,by simp⟩⟩
   .rw[aA (Ne.symm hj)]at e2;obtain⟨u',r',q⟩:=hl j y v' e1 e2 e3;refine⟨u',r',?_⟩;rcases q with⟨k,e⟩|⟨k,c,e,z⟩
    .refine .inl ⟨k,?_⟩;have:y≠x:=λe=>hj (Qel hN e1 (e▸Y));simp[this,e]
    .exact .inr ⟨k,c,e,z.sameBut f (cne y c e)⟩
  .obtain⟨w',z⟩:=I.cell y c e;exact⟨w',z.sameBut f (cne y c e)⟩
  .obtain⟨e,n,ne,nf,d⟩:=I.pin p hp;exact⟨(f.2 p.1 ne).trans e,n,ne,nf,d⟩
 .have O:X.fn x=true:=by
   rcases hf with z | z
   .exact z
   .rw[z]at J;cases J
  obtain⟨c,hc⟩:=I.ok.has x (.inl J);obtain⟨w',z⟩:=I.cell x c hc;refine wpAny_storeName_cell I.ok.kind J hc z (λT az f=>?_);obtain⟨oc,aq,aj⟩:=id z;refine h { s with heap:=T } ⟨I.ok,I.os,I.bare,⟨λb o e n L l=>?_,λb o e n L l=>?_,I.base.free,λb o e l=>?_,I.base.tups,I.base.frzs,I.base.tbls⟩,⟨m,hn.sameBut f (Ne.symm (cne x c hc)),λj y v' e1 e2 e3=>?_⟩,λy c' e=>?_,I.free,I.freeC,λp hp=>?_,tracked ⟨oc,aq,I.freeC x c hc⟩ f,by simpa using I.len⟩ ⟨c,f,.inr hc⟩
  .exact(f.2 b (aL (aF (aD e) (I.ok.cab x c O hc)))).trans (I.base.keep b o e n L l)
  .obtain⟨sl,e1⟩:=I.base.slot b o e n L l;exact⟨sl,(f.2 b (aL (aF (aD e) (I.ok.cab x c O hc)))).trans e1⟩
  .obtain⟨o',e1⟩:=I.base.there b o e l;exact⟨o',(f.2 b (aL (aF (aD e) (I.ok.cab x c O hc)))).trans e1⟩
  .by_cases hj:j=i
   .subst hj;rw[Y]at e1;cases e1;rw[a0 D]at e2;cases e2;exact⟨u,r,.inr ⟨.inl J,c,hc,az⟩⟩
   .rw[aA (Ne.symm hj)]at e2;obtain⟨u',r',q⟩:=hl j y v' e1 e2 e3;refine⟨u',r',?_⟩;rcases q with q|⟨k,c',e,z'⟩
    .exact .inl q
    .refine .inr ⟨k,c',e,z'.sameBut f ?_⟩;rintro rfl;exact hj (Qel hN e1 (I.ok.inj _ _ _ e hc▸Y))
  .by_cases ak:c'=c
   .subst ak;exact⟨_,az⟩
   .obtain⟨w2,z2⟩:=I.cell y c' e;exact⟨w2,z2.sameBut f ak⟩
  .obtain⟨e,n,ne,nf,d⟩:=I.pin p hp;refine⟨(f.2 p.1 ?_).trans e,n,ne,nf,d⟩;intro q;rw[q,aq]at e;have q' :=br e;exact d w' (by rw[<-q'];exact aj)
def QaH{X:Cx}{l:List (Option V)}(I:Inv X f l H s)(B:X.N.Nodup)(D:X.N[i]?=some x)(J:Loc X.env.scope x)(r:RelV v u)(h:∀s',Inv X f (l.set i (some v)) H s'->Q () s')(hf:X.fn x=true\/X.env.scope.names.lookup x=some .local:=by first | exact .inl rfl | exact .inr rfl | assumption):aE M A (storeName X.env x u) Q E s :=
 Qfk I B D J r (λs' j _=>h s' j) hf
def Inv.call'{s:aC}(I:Inv X f D H s)(ho:s'.os=s.os)(u:Un (frs X.stack) ch H B s.heap s'.heap)(hok:HOk X.prog X.w B s'.heap)(J:iU s'.gens)(l:∀b∈ch,(b∈X.ex\/X.s₀.heap.objs.size<=b)/\b≠X.env.locals/\(∀x c,X.env.cells.lookup x=some c->c≠b)/\∀p∈X.pn++f,p.1≠b):Inv X f D B s':=by
 obtain⟨j,E,L,t',M⟩:=s';have e :=ho;subst e;exact I.call u hok J l
end
abbrev XK:=Value->Option Addr->Hp->Prop
abbrev St:=List (Option V)
abbrev VK:=V->Hp->Prop
abbrev TE:=St->Hp->VK->Prop
abbrev TT:=St->Hp->(Bool->Hp->Prop)->Prop
abbrev TA:=St->Hp->(List V->Hp->Prop)->Prop
structure Ends where
 nx:St->Hp->Prop
 rt:VK
 bk:St->Hp->Prop:=λ_ _=>False
 ct:St->Hp->Prop:=λ_ _=>False
abbrev TS:=Ends->St->Hp->Prop
inductive EP (X:Cx) (pins:List (Addr×Obj)) (σ:St) (Q:VK) (u:Value) (s':aC):Prop
 |mk v H':Inv X pins σ H' s'->RelV v u->Q v H'->EP X pins σ Q u s'
def TP(X:Cx)(f:List (Addr×Obj))(l:St)(Q:Bool->Hp->Prop)(b:Bool)(s':aC):Prop:=∃H,Inv X f l H s'/\Q b H
inductive AP (X:Cx) (pins:List (Addr×Obj)) (σ:St) (Q:List V->Hp->Prop) (us:List Value) (s':aC):Prop
 |mk vs H':Inv X pins σ H' s'->Vals vs us->Q vs H'->AP X pins σ Q us s'
def SP(X:Cx)(l:List (Addr×Obj))(D:Ends)(f:Flow)(s':aC):Prop :=
 match f with
 |.next=>∃j H,Inv X l j H s'/\D.nx j H
 |.brk=>∃j H,Inv X l j H s'/\D.bk j H
 |.cont=>∃j H,Inv X l j H s'/\D.ct j H
 |.ret u=>∃v j H,Inv X l j H s'/\RelV v u/\D.rt v H
def PE(X:Cx)(e:Expr)(t:TE):Prop :=
 ∀f s (j:St) H Q,Inv X f j H s->t j H Q->aE (model X.prog X.w) X.A (eval e X.env) (EP X f j Q) X.xe s
def PT(X:Cx)(e:Expr)(t:TT):Prop :=
 ∀f s (j:St) H Q,Inv X f j H s->t j H Q->aE (model X.prog X.w) X.A (isTrue e X.env (eval e X.env)) (TP X f j Q) X.xe s
def PW(X:Cx)(e:Expr)(t:TT):Prop :=
 ∀whole f s (j:St) H Q,Inv X f j H s->t j H Q->aE (model X.prog X.w) X.A (isTrue e X.env whole) (TP X f j Q) X.xe s
def PW.pt(h:PW X e t):PT X e t:=h _
def PA(X:Cx)(B:List Expr)(t:TA):Prop :=
 ∀j f s (l:St) H Q,Inv X f l H s->t l H Q->aE (model X.prog X.w) X.A (spliced (bx j (ah B X.env))) (AP X f l Q) X.xe s
def PS(X:Cx)(st:Stmt)(t:TS):Prop :=
 ∀f s (j:St) H D,Inv X f j H s->t D j H->aE (model X.prog X.w) X.A (exec st X.env) (SP X f D) X.xe s
def PSs(X:Cx)(st:List Stmt)(t:TS):Prop :=
 ∀f s (j:St) H D,Inv X f j H s->t D j H->aE (model X.prog X.w) X.A (execs st X.env) (SP X f D) X.xe s
def thn(h:aE M A t Q E s)(f:∀a s,Q a s->l a s):aE M A t l E s:=da h f λ_ _ x=>x
section
def tVar(i:Nat):TE:=λf H Q=>∃v,f[i]?=some (some v)/\Q v H
def tC(v:V):TE:=λ_ H Q=>Q v H
def pe_var(J:X.N[i]?=some x)(L:Vis X.env.scope x)(hd:(x=="__debug__")=false:=by decide)(D:(x=="__classdict__")=false:=by decide):PE X (.Name x M) (tVar i):=by
 intro B s E H Q I h;obtain⟨v,e,h⟩:=h;obtain⟨m,O,hl⟩:=I.loc;obtain⟨u,r,l⟩:=hl i x v J e L;have fin:EP X B E Q u s:=⟨v,H,I,r,h⟩
 rcases l with⟨j,hm⟩|⟨j,c,hc,f⟩
 .exact wpAny_Name (mG I.ok.kind j O hm fin) hd
 .rcases j with j | j
  .exact wpAny_Name (wpAny_loadName_cell I.ok.kind j hc f fin) hd
  .exact wpAny_Name (wpAny_loadName_free I.ok.kind j hc f fin D) hd
def pe_int:PE X (.Constant (.int i) j f) (tC (.int i)):=λ_ _ _ H _ I h=>wpAny_Constant_int ⟨.int i,H,I.tok _,⟨_,rfl⟩,h⟩
def pe_bl:PE X (.Constant (.bool b) j f) (tC (.bl b)):=λ_ _ _ H _ I h=>Constant_bool ⟨.bl b,H,I,rfl,h⟩
def pe_non:PE X (.Constant .none j f) (tC .non):=λ_ _ _ H _ I h=>Constant_none ⟨.non,H,I,rfl,h⟩
def pe_str:PE X (.Constant (.str x) j f) (tC (.str x)):=λ_ _ _ H _ I h=>Calls.Constant_str ⟨.str x,H,I.tok _,⟨_,rfl⟩,h⟩
def Gl(X:Cx)(x:Str):Prop:=X.env.kindOf x=some .globalImplicit
def Qcm(I:Inv X f D H s)(l:Gl X x)(hm:X.mg x=some u)(h:Q u s)(hd:(x=="__debug__")=false:=by decide):aE (model X.prog X.w) X.A (eval (.Name x B) X.env) Q E s :=
 kY I.ok.kind l (Calls.loadGlobal_global (by rw[I.ok.glob];exact I.mod.glob.keeps I.bk) hm h) hd
def Qbt(I:Inv X f L H s)(l:Gl X x)(hm:X.mg x=none)(B:cI x=some u)(h:Q u s)(D:x≠"__name__":=by decide)(hd:(x=="__debug__")=false:=by decide):aE (model X.prog X.w) X.A (eval (.Name x J) X.env) Q E s:=by
 obtain⟨j,h1,h2⟩:=I.mod.blt;exact kY I.ok.kind l (Calls.loadGlobal_builtin (by rw[I.ok.glob];exact I.mod.glob.keeps I.bk) hm (by rw[I.ok.blt];exact h1.keeps I.bk) ((h2 x D).trans B) h) hd
def QdR(f:Gl X x)(hm:X.mg x=some u)(r:RelV v u)(hd:(x=="__debug__")=false:=by decide):PE X (.Name x l) (tC v) :=
 λ_ _ _ H _ I h=>Qcm I f hm ⟨v,H,I,r,h⟩ hd
def QkN(f:Gl X x)(hm:X.mg x=none)(l:cI x=some u)(r:RelV v u)(B:x≠"__name__":=by decide)(hd:(x=="__debug__")=false:=by decide):PE X (.Name x D) (tC v) :=
 λ_ _ _ H _ I h=>Qbt I f hm l ⟨v,H,I,r,h⟩ B hd
def t2I(l tb:TE)(k:Int->Int->Hp->Prop):St->Hp->Prop:=λf H=>l f H λx B=>tb f B λy D=>∃i j,x = .int i/\y = .int j/\k i j D
def tCmp(p:Int->Int->Bool)(f tb:TE):TE:=λl H Q=>t2I f tb (λi j B=>Q (.bl (p i j)) B) l H
abbrev tLe:TE->TE->TE:=tCmp λi j=>decide (i<=j)
def tB(t:TE):TT:=λf H Q=>t f H λx j=>∃c,x = .bl c/\Q c j
def tAnd(t u:TT):TT:=λf H Q=>t f H λc j=>if c=true then u f j Q else Q false j
def tOr(t u:TT):TT:=λf H Q=>t f H λc j=>if c=true then Q true j else u f j Q
def tNot(t:TT):TT:=λf H Q=>t f H λc j=>Q (!c) j
def pw_and1(l:PT X a B):PW X (.BoolOp .And [a] D) B:=by
 intro E f s j H Q I h;refine isTrue_and (thn (l f s j H Q I h) λc s1 e=>?_);cases c with
 |true=>exact isTrue_and_nil e
 |false=>exact e
def pw_or1(l:PT X a B):PW X (.BoolOp .Or [a] D) B:=by
 intro E f s j H Q I h;refine isTrue_or (thn (l f s j H Q I h) λc s1 e=>?_);cases c with
 |false=>exact isTrue_or_nil e
 |true=>exact e
def pw_and{X:Cx}{l:Pos}{D:TT}{B:TT}{rest:List Expr}(M:PT X a D)(O:PW X (.BoolOp .And (b::rest) l) B):PW X (.BoolOp .And (a::b::rest) l) (tAnd D B):=by
 intro T f s j H Q I h;refine isTrue_and (thn (M f s j H _ I h) λc s1 U=>?_);obtain⟨E,J,L⟩:=U;cases c with
 |true=>exact O T f s1 j E Q J L
 |false=>exact⟨E,J,L⟩
def pw_or{X:Cx}{l:Pos}{D:TT}{B:TT}{rest:List Expr}(M:PT X a D)(O:PW X (.BoolOp .Or (b::rest) l) B):PW X (.BoolOp .Or (a::b::rest) l) (tOr D B):=by
 intro T f s j H Q I h;refine isTrue_or (thn (M f s j H _ I h) λc s1 U=>?_);obtain⟨E,J,L⟩:=U;cases c with
 |true=>exact⟨E,J,L⟩
 |false=>exact O T f s1 j E Q J L
def pt_not(l:PT X a B):PT X (.UnaryOp .Not a D) (tNot B):=by
 intro f s j H Q I h;exact isTrue_not (l f s j H (λc E=>Q (!c) E) I h)
def tAndV(l tb:TE):TE:=λf H Q=>l f H λx j=>∃c,x = .bl c/\if c=true then tb f j Q else Q (.bl false) j
def tOrV(l tb:TE):TE:=λf H Q=>l f H λx j=>∃c,x = .bl c/\if c=true then Q (.bl true) j else tb f j Q
def tNotV(f:TE):TE:=λj H Q=>f j H λx l=>∃c,x = .bl c/\Q (.bl (!c)) l
def pe_one(h:PE X a t):PE X (.BoolOp B [a] l) t:=λf s j H Q I hw=>BoolOp_one (h f s j H Q I hw)
def pe_and{X:Cx}{B:TE}{tb:TE}{l:Pos}{rest:List Expr}(L:PE X a B)(M:PE X (.BoolOp .And (b::rest) l) tb):PE X (.BoolOp .And (a::b::rest) l) (tAndV B tb):=by
 intro f s D H Q I h;refine BoolOp_and (thn (L f s D H _ I h) λv s1 O=>?_);obtain⟨x,E,J,T,j⟩:=O;obtain⟨c,rfl,j⟩:=j;cases T;refine cO ?_;cases c with
 |true=>exact M f s1 D E Q J j
 |false=>exact⟨.bl false,E,J,rfl,j⟩
def pe_or{X:Cx}{B:TE}{tb:TE}{l:Pos}{rest:List Expr}(L:PE X a B)(M:PE X (.BoolOp .Or (b::rest) l) tb):PE X (.BoolOp .Or (a::b::rest) l) (tOrV B tb):=by
 intro f s D H Q I h;refine BoolOp_or (thn (L f s D H _ I h) λv s1 O=>?_);obtain⟨x,E,J,T,j⟩:=O;obtain⟨c,rfl,j⟩:=j;cases T;refine cO ?_;cases c with
 |false=>exact M f s1 D E Q J j
 |true=>exact⟨.bl true,E,J,rfl,j⟩
def pe_not(l:PE X a B):PE X (.UnaryOp .Not a D) (tNotV B):=by
 intro f s E H Q I h;refine UnaryOp_ (thn (l f s E H _ I h) λv s1 J=>?_);obtain⟨x,L,M,O,j⟩:=J;obtain⟨c,rfl,j⟩:=j;cases O;exact not_of (cO ⟨.bl (!c),L,M,rfl,j⟩)
def tIf(t:TT)(l tb:TE):TE:=λf H Q=>t f H λc j=>if c=true then l f j Q else tb f j Q
def pe_ifExp(hc:PT X c J)(L:PE X a M)(O:PE X b tb):PE X (.IfExp c a b T) (tIf J M tb):=by
 intro f s j H Q I h;refine wpAny_IfExp (thn (hc f s j H _ I h) λd s1 E=>?_);obtain⟨l,B,D⟩:=E;cases d with
 |true=>exact L f s1 j l Q B D
 |false=>exact O f s1 j l Q B D
end
def SqL(K:aa)(H:Hp)(a:Addr)(xs:List V):Prop :=
 Rd H a (.lst xs) \/
  ∃(o:Obj)(f:Array Value)(n:Nat),K.lookup a=some o/\o.cls = .type "list"/\o.dict=none/\o.data = .seq f n/\f.size<=aI/\Vals xs f.toList
def SqT(K:aa)(H:Hp)(a:Addr)(xs:List V):Prop :=
 Rd H a (.tup xs) \/
  ∃(o:Obj)(f:Array Value)(n:Nat),K.lookup a=some o/\o.cls = .type "tuple"/\o.dict=none/\o.data = .seq f n/\f.size<=aI/\Vals xs f.toList
noncomputable def absV:Value->Option V
 |.none=>some .non
 |.bool b=>some (.bl b)
 |.int i _=>some (.int i)
 |.str x _=>some (.str x)
 |.bytes b _=>some (.byt b)
 |.float b _=>some (.flt b)
 |.ref a=>some (.ref a)
 |.type n=>some (.ty n)
 |_=>none
def RelV.abs(r:RelV x u):absV u=some x:=by
 cases x with
 |int _=>obtain⟨t,rfl⟩:=r;rfl
 |str _=>obtain⟨t,rfl⟩:=r;rfl
 |byt _=>obtain⟨t,rfl⟩:=r;rfl
 |flt _=>obtain⟨t,rfl⟩:=r;rfl
 |_=>cases r;rfl
def RelV.inj(r:RelV x u)(q:RelV y u):x=y:=br (r.abs.symm.trans q.abs)
def Vals.inj:∀{xs ys:List V}{us:List Value},Vals xs us->Vals ys us->xs=ys:=by
 intro xs ys us h;induction h generalizing ys with
 |nil=>intro h;cases h;rfl
 |cons r t f=>intro h;cases h with | cons j t'=>rw[r.inj j,f t']
section
def SqL.of{K:aa}(h:H a=some (.lst xs)):SqL K H a xs := .inl (.inl h)
def SqT.of{K:aa}(h:H a=some (.tup xs)):SqT K H a xs := .inl (.inl h)
def Inv.list(I:Inv X l D H s)(h:SqL X.K H a xs):∃f ,Vals xs f/\PlainL s.heap a f.toArray/\xs.length<=aI:=by
 rcases h with h|⟨o,f,n,j,hc,hd,B,hz,r⟩
 .obtain⟨z,f,n,r,e⟩:=h.ok I.hok;exact⟨f,r,⟨_,n,e,rfl,rfl,rfl⟩,z⟩
 .refine⟨f.toList,r,⟨o,n,I.kIn a o j,hc,hd,by simpa using B⟩,?_⟩;have e:=r.length;grind
def Inv.tupleD(I:Inv X l D H s)(h:SqT X.K H a xs):∃f ,Vals xs f/\Xb s.heap a f.toArray xs/\xs.length<=aI:=by
 rcases h with h|⟨o,f,n,j,hc,hd,B,hz,r⟩
 .obtain⟨z,f,r,p⟩:=h.ok I.hok;exact⟨f,r,p,z⟩
 .refine⟨f.toList,r,⟨o,I.kIn a o j,hc,.inl hd,n,by simpa using B⟩,?_⟩;have e:=r.length;simp at e;lia
def Inv.tuple(I:Inv X l B H s)(h:SqT X.K H a xs):∃f ,Vals xs f/\IsTup s.heap a f.toArray/\xs.length<=aI :=
 let ⟨f,r,p,z⟩:=I.tupleD h
 ⟨f,r,p.is,z⟩
def Inv.list_inj(I:Inv X l L H s)(h:SqL X.K H a xs)(J:SqL X.K H a ys):xs=ys:=by
 obtain⟨j,r,⟨o,n,e,_,_,d⟩,_⟩:=I.list h;obtain⟨f,E,⟨M,O,B,_,_,D⟩,_⟩:=I.list J;rw[e]at B;cases B;rw[d]at D;injection D with T _
 have:j=f:=by grind
 subst this;exact r.inj E
def Inv.tuple_inj(I:Inv X l L H s)(h:SqT X.K H a xs)(J:SqT X.K H a ys):xs=ys:=by
 obtain⟨j,r,⟨o,e,_,n,d⟩,_⟩:=I.tuple h;obtain⟨f,E,⟨M,B,_,O,D⟩,_⟩:=I.tuple J;rw[e]at B;cases B;rw[d]at D;injection D with T _
 have:j=f:=by grind
 subst this;exact r.inj E
end
abbrev Cx.wish(X:Cx)(E:Value->aC->Prop):Cx:={ X with xe:=E }
abbrev Cx.nox(X:Cx):Cx:=X.wish λ_ _=>False
def Cx.Ok.wish{X:Cx}(ok:X.Ok) E:(X.wish E).Ok :=
 ⟨ok.mod,ok.kind,ok.glob,ok.blt,ok.above,ok.inj,ok.has,ok.cab,ok.hd,ok.frames,ok.stk,ok.exf,ok.bs,ok.bsz,ok.noex,ok.exfs,ok.funs,ok.frf⟩
def Cx.Ok.unwish{X:Cx}(ok:(X.wish E).Ok):X.Ok :=
 ⟨ok.mod,ok.kind,ok.glob,ok.blt,ok.above,ok.inj,ok.has,ok.cab,ok.hd,ok.frames,ok.stk,ok.exf,ok.bs,ok.bsz,ok.noex,ok.exfs,ok.funs,ok.frf⟩
section
def Inv.wish(I:Inv X f l H s) E:Inv (X.wish E) f l H s:=⟨I.ok.wish E,I.os,I.bare,I.base,I.loc,I.cell,I.free,I.freeC,I.pin,I.hok,I.len⟩
def Inv.unwish(I:Inv (X.wish E) f l H s):Inv X f l H s:=⟨I.ok.unwish,I.os,I.bare,I.base,I.loc,I.cell,I.free,I.freeC,I.pin,I.hok,I.len⟩
def SP.unwish(h:SP (X.wish E) l D f s'):SP X l D f s':=by
 cases f with
 |ret u=>obtain⟨v,j,H,I,r,q⟩:=h;exact⟨v,j,H,I.unwish,r,q⟩
 |_=>obtain⟨j,H,I,q⟩:=h;exact⟨j,H,I.unwish,q⟩
def PT.nox(h:PT X.nox e t):PT X e t:=λf s j H Q I hw =>
 da (h f s j H Q (I.wish _) hw) (λ_ _ ⟨l,B,q⟩=>⟨l,B.unwish,q⟩) λ_ _ z=>cP z
def PSs.nox{st:List Stmt}(h:PSs X.nox st t):PSs X st t:=λf s j H D I hw =>
 da (h f s j H D (I.wish _) hw) (λ_ _ q=>q.unwish) λ_ _ z=>cP z
end
section
def tNext:TS:=λD f H=>D.nx f H
def tSeq(t u:TS):TS:=λD f H=>t { D with nx:=u D } f H
def pss_nil:PSs X [] tNext:=λ_ _ f H _ I h=>fB ⟨f,H,I,h⟩
variable{X:Cx}{st:Stmt}{rest:List Stmt}{t:TS}{u:TS} in theorem pss_cons (h1:PS X st t) (h2:PSs X rest u):PSs X (st::rest) (tSeq t u):=by
 intro pins s σ H D I h;refine jS (thn (h1 pins s σ H { D with nx:=u D } I h) λf s1 q=>?_);cases f with
 |next =>
  obtain⟨σ',H',I',q⟩:=q;exact h2 pins s1 σ' H' D I' q
 |_=>exact q
def Qgx{X:Cx}{st:Stmt}(h1:PS X st t):PSs X [st] t:=by
 intro j s l H D I h;refine jS (thn (h1 j s l H D I h) λf s1 q=>?_);cases f with
 |next=>exact fB q
 |_=>exact q
def Inv.quiet(I:Inv X f l H s):interactive X.env=false:=by simp[interactive,I.ok.kind]
def Qhg(te:TE):TS:=λD f H=>te f H λ_ j=>D.nx f j
def Qaq(he:PE X e te)(B:cB e none l.line X.env=pure false:=by rfl):PS X (.Expr e l) (Qhg te):=by
 intro f s j H D I h;exact wpAny_Expr_any (thn (he f s j H _ I h) λv s1 ⟨x,E,J,M,L⟩=>⟨j,E,J,L⟩) I.quiet B
def tRet(te:TE):TS:=λD f H=>te f H D.rt
def Qke(he:PE X e te):PS X (.Return (some e) l) (tRet te):=by
 intro f s j H D I h;exact wpAny_Return_some (thn (he f s j H _ I h) λv s1 ⟨x,B,E,J,L⟩=>⟨x,j,B,E,J,L⟩)
def tIfS(c:TT)(t u:TS):TS:=λD f H=>c f H λb j=>if b=true then t D f j else u D f j
def ps_if(hc:PT X c tc)(J:PSs X a t)(L:PSs X b u):PS X (.If c a b M) (tIfS tc t u):=by
 intro f s j H D I h;refine wpAny_If (thn (hc f s j H _ I h) λd s1 O=>?_);obtain⟨l,B,E⟩:=O;cases d with
 |true=>exact J f s1 j l D B E
 |false=>exact L f s1 j l D B E
def tNever:TS:=λ_ _ _=>False
def ps_never{X:Cx}{st:Stmt}:PS X st tNever:=λ_ _ _ _ _ _ h=>h.elim
end
abbrev TG:=V->St->Hp->(St->Hp->Prop)->Prop
abbrev TGs:=List V->St->Hp->(St->Hp->Prop)->Prop
def PG(X:Cx)(target:Expr)(t:TG):Prop :=
 ∀f s (l:St) H v u Q,Inv X f l H s->RelV v u->t v l H Q ->
  aE (model X.prog X.w) X.A (assign target X.env u) (λ_ s'=>∃j B,Inv X f j B s'/\Q j B) X.xe s
def PGs(X:Cx)(D:List Expr)(t:TGs):Prop :=
 ∀f s (l:St) H vs us Q,Inv X f l H s->Vals vs us->t vs l H Q ->
  aE (model X.prog X.w) X.A (assignInOrder ((jp D X.env).map (·.2)) us) (λ_ s'=>∃j B,Inv X f j B s'/\Q j B) X.xe s
abbrev TIp:=V->V->Hp->VK->Prop
def PIp(X:Cx)(l:Operator)(t:TIp):Prop :=
 ∀f s (j:St) H x y v u Q,Inv X f j H s->RelV x v->RelV y u->t x y H Q ->
  aE (model X.prog X.w) X.A (jU l v u) (EP X f j Q) X.xe s
section
def QhF(i:Nat):TG:=λv f H Q=>Q (f.set i (some v)) H
def pg_name(l:X.N.Nodup)(B:X.N[i]?=some x)(D:Loc X.env.scope x)(hf:X.fn x=true\/X.env.scope.names.lookup x=some .local:=by first | exact .inl rfl | exact .inr rfl | assumption):PG X (.Name x J) (QhF i):=by
 intro f s E H v u Q I r h;exact wpAny_assign_Name (QaH I l B D r (λs' j=>⟨_,H,j,h⟩) hf)
def gNil:TGs:=λvs f H Q=>vs=[]/\Q f H
def gCons(t:TG)(u:TGs):TGs:=λvs j H Q=>∃v r,vs=v::r/\t v j H λf l=>u r f l Q
def pgs_nil:PGs X [] gNil:=by
 intro f s j H vs us Q I r h;obtain⟨e,h⟩:=h;subst e;cases r;exact assignInOrder_nil ⟨j,H,I,h⟩
def pgs_cons(h1:PG X e t)(h2:PGs X l u)(B:(jp (e::l) X.env).map (·.2)=assign e X.env::(jp l X.env).map (·.2):=by rfl):PGs X (e::l) (gCons t u):=by
 intro f s D H vs us Q I r h;obtain⟨v,T,e1,h⟩:=h;subst e1;cases r with
 |cons r E =>
  rw[B];refine assignInOrder_cons (thn (h1 f s D H _ _ _ I r h) λ_ s1 J=>?_);obtain⟨j,L,M,O⟩:=J;exact h2 f s1 j L _ _ Q M E O
def gTup(K:aa)(n:Nat)(t:TGs):TG:=λv f H Q=>∃a xs,v = .ref a/\SqT K H a xs/\xs.length=n/\t xs f H Q
def pg_tup(hc:X.calm=true)(h:PGs X l t)(D:(jp l X.env).length=n:=by rfl)(B:(jp l X.env).findIdx? (·.1)=none:=by rfl):PG X (.Tuple l k J) (gTup X.K n t):=by
 intro f s j H v u Q I r hw;obtain⟨a,xs,e1,E,hl,hw⟩:=hw;subst e1;cases r;obtain⟨L,M,O,hz⟩:=I.tuple E;refine assign_Tuple_tuple (I.ok.hd hc) O (by simp[D,<-hl,M.length]) B λY T=>?_;have U :=I.kept (t':=s.toks) λb o e=>T b o (aL (aD e)) e;exact h f _ j H xs _ Q U (by grind) hw
def tAsg(te:TE)(g:TG):TS:=λD f H=>te f H λx j=>g x f j D.nx
def ps_set(B:X.N.Nodup)(J:X.N[i]?=some x)(L:Loc X.env.scope x)(he:PE X e te)(M:cB e (some (.Name x f)) l.line X.env=pure false:=by rfl)(hf:X.fn x=true\/X.env.scope.names.lookup x=some .local:=by first | exact .inl rfl | exact .inr rfl | assumption) :
  PS X (.Assign [.Name x f] e l) (tAsg te (QhF i)):=by
 intro j s E H D I h;refine wpAny_Assign_Name (thn (he j s E H _ I h) λv s1 O=>?_) M;obtain⟨y,T,U,Y,q1⟩:=O;exact QaH U B J L Y (λs2 I2=>⟨_,T,I2,q1⟩) hf
def tAug(i:Nat)(te:TE)(l:TIp):TS:=λD f H=>∃x,f[i]?=some (some x)/\te f H λy j=>l x y j λz B=>D.nx (f.set i (some z)) B
def ps_aug(hN:X.N.Nodup)(T:X.N[i]?=some x)(L:Loc X.env.scope x)(he:PE X e te)(ho:PIp X U ti)(hf:X.fn x=true\/X.env.scope.names.lookup x=some .local:=by first | exact .inl rfl | exact .inr rfl | assumption) :
  PS X (.AugAssign (.Name x Y) U e av) (tAug i te ti):=by
 intro f s σ H D I h;obtain⟨v,e1,h⟩:=h;obtain⟨m,hn,hl⟩:=I.loc;have M:Vis X.env.scope x:=by rcases L with k | k;exact .inl k;exact .inr (.inl k)
 obtain⟨u,r,l⟩:=hl i x v T e1 M;refine wpAny_AugAssign_Name ?_;have go:aE (model X.prog X.w) X.A (eval e X.env) (λw E=>aE (model X.prog X.w) X.A (jU U u w) (λr J=>aE (model X.prog X.w) X.A (storeName X.env x r) (λ_=>SP X f D .next) X.xe J) X.xe E) X.xe s:=by
  refine thn (he f s σ H _ I h) λw s1 O=>?_;obtain⟨y,H1,I1,r1,q1⟩:=O;refine thn (ho f s1 σ H1 v y u w _ I1 r r1 q1) λz s2 O=>?_;obtain⟨zv,H2,I2,r2,q2⟩:=O;exact QaH I2 hN T L r2 (λs3 I3=>⟨_,H2,I3,q2⟩) hf
 rcases l with⟨j,hm⟩|⟨j,c,hc,B⟩
 .exact mG I.ok.kind j hn hm go
 .rcases j with j | j
  .exact wpAny_loadName_cell I.ok.kind j hc B go
  .rcases L with k | k
   .have:X.env.scope.names.lookup x=some .free:=j;rw[k]at this;cases this
   .have:X.env.scope.names.lookup x=some .free:=j;rw[k]at this;cases this
end
section
def tWhile(c:TT)(tb:TS):TS:=λD f H=>∃W:Nat->St->Hp->Prop,(∃m,W m f H)/\∀m f H,W m f H ->
 c f H λb l=>if b=true then ∃N ,(∀j B,N j B->∃E,E<m/\W E j B)/\tb { D with nx:=N,ct:=N,bk:=D.nx } f l else D.nx f l
def ps_while(hp:f7 (model X.prog X.w) X.A X.env X.xe)(hc:PT X c tc)(hb:PSs X body tb):PS X (.While c body [] av) (tWhile tc tb):=by
 intro j s σ H D I h;obtain⟨W,⟨m0,w0⟩,turn⟩:=h;refine wpAny_While (codeAny_whileLoop (λn s'=>∃E H',Inv X j E H' s'/\W n E H') ?_ m0 ⟨σ,H,I,w0⟩);rintro n s1 ⟨B,H1,I1,w1⟩;refine eL hp (thn (hc j s1 B H1 _ I1 (turn n B H1 w1)) λb s2 zz=>?_);obtain⟨H2,I2,L⟩:=zz;cases b with
 |true =>
  obtain⟨N,hN,L⟩:=L;refine eL hp (thn (hb j s2 B H2 _ I2 L) λf s3 M=>?_);cases f with
  |next =>
   obtain⟨l,J,O,T⟩:=M;obtain⟨U,hm,Y⟩:=hN l J T;exact⟨U,hm,l,J,O,Y⟩
  |cont =>
   obtain⟨l,J,O,T⟩:=M;obtain⟨U,hm,Y⟩:=hN l J T;exact⟨U,hm,l,J,O,Y⟩
  |brk=>exact M
  |ret v=>exact M
 |false =>
  exact fB ⟨B,H2,I2,L⟩
end
structure It where
 go:Nat->Hp->Prop
 yld:Nat->Hp->V->Hp->Prop
 stop:Nat->Hp->Prop
def FpOk(X:Cx)(f:List (Addr×Obj))(H:Hp)(b:Addr):Prop :=
 H b=none/\b≠X.env.locals/\b∉X.fs/\(b∈X.ex\/X.s₀.heap.objs.size<=b)/\(∀x c,X.env.cells.lookup x=some c->c≠b)/\∀p∈X.pn++f,p.1≠b
def Inv.fpOk(I:Inv X f J H s)(l:s.heap.objs.size<=b)(B:D b=none):FpOk X f D b:=by
 refine⟨B,f8 (aF I.lt l),I.nofs l,.inr (aS I.sz l),λx c e z=>?_,λp j z=>?_⟩
 .obtain⟨v,q⟩:=I.cell x c e;exact absurd (aF q.lt (by rw[z];exact l)) (b4 _)
 .exact absurd (aF (aD (I.pin p j).1) (by rw[z];exact l)) (b4 _)
structure Turn (P:aY) (w:cf) (K:aa) (tg:Expr) (J:It) (fp:List Addr) (it:Addr) (tn:Nat->Heap->Prop):Prop where
 mem:it∈fp
 obj:∀i h,tn i h->∀b∈fp,∃o,h.get? b=some o/\∀v,o.data≠.cell v
 keep:∀i h h',tn i h->(∀b∈fp,∀o,h.get? b=some o->h'.get? b=some o)->tn i h'
 item:∀(X:Cx),X.prog=P->X.w=w->X.K=K->X.calm=true->∀(i:Nat)(pins:List (Addr×Obj))(s:aC)(σ:St)(H:Hp)(E:Value->aC->Prop),Inv X pins σ H s->(∀b∈fp,FpOk X pins H b)->tn i s.heap->J.go i H ->
  aE (model P w) X.A (kH (.ref it)) (λr s1=>∃u,r=some u /\
   aE (model P w) X.A (kc tg (.ref it) u) (λ_ s2=>∃x H',Inv X pins σ H' s2/\RelV x u/\J.yld i H x H'/\tn (i+1) s2.heap/\∀b∈fp,H' b=none) E s1) E s
 done:∀(X:Cx),X.prog=P->X.w=w->X.K=K->X.calm=true->∀(i:Nat)(pins:List (Addr×Obj))(s:aC)(σ:St)(H:Hp)(E:Value->aC->Prop),Inv X pins σ H s->(∀b∈fp,FpOk X pins H b)->tn i s.heap->J.stop i H ->
  aE (model P w) X.A (kH (.ref it)) (λr s1=>r=none/\Inv X pins σ H s1) E s
 self:∀(A:dm)(i:Nat)(s:aC)(Q:Value->aC->Prop)(E:Value->aC->Prop),tn i s.heap->Q (.ref it) s->aE (model P w) A (l8 (.ref it)) Q E s
abbrev TI:=St->Hp->(It->Hp->Prop)->Prop
def PIE(X:Cx)(f:List (Addr×Obj))(D:St)(I:Expr)(R:It->Hp->Prop)(l:Value)(s2:aC):Prop :=
 ∃(it:Addr)(j:List Addr)(B:Nat->Heap->Prop)(J:It)(H:Hp),l = .ref it/\Inv X f D H s2/\Turn X.prog X.w X.K I J j it B/\B 0 s2.heap/\(∀b∈j,FpOk X f H b)/\R J H
def PI(X:Cx)(l iter:Expr)(B:TI):Prop :=
 ∀f s (j:St) H R,Inv X f j H s->B j H R ->
  aE (model X.prog X.w) X.A (eval iter X.env) (λv s1=>aE (model X.prog X.w) X.A (l8 v) (PIE X f j l R) X.xe s1) X.xe s
def QhE(ho:s.heap.get? it=some o)(hc:o.cls = .type n)(hd:o.data = .fields vs)(B:["enumerate","zip","dict_itemiterator","dict_reverseitemiterator","odict_iterator","itertools.zip_longest","itertools.pairwise"].contains n=false)(f:Q () s):aE M A (kc l (.ref it) u) Q E s:=by
  cases l<;>first
    |exact ag f
    | (cases u<;>first
        |exact ag f
        | (refine ac (kD ho ?_)
           rw[hc,hd];show aE M A (if (["enumerate","zip","dict_itemiterator","dict_reverseitemiterator","odict_iterator","itertools.zip_longest","itertools.pairwise"].contains n&&vs[0]?==some (bP _))=true then _ else _) Q E s;rw[aK (by grind)];exact ag f))
def Itl(K:aa)(a:Addr):It :=
 ⟨λi H=>∃xs x,SqL K H a xs/\xs[i]?=some x,λi H x f=>f=H/\∀xs,SqL K H a xs->xs[i]?=some x,λi H=>∃xs,SqL K H a xs/\xs.length<=i⟩
def Itt(K:aa)(a:Addr):It :=
 ⟨λi H=>∃xs x,SqT K H a xs/\xs[i]?=some x,λi H x f=>f=H/\∀xs,SqT K H a xs->xs[i]?=some x,λi H=>∃xs,SqT K H a xs/\xs.length<=i⟩
def Itr(lo:Int)(n:Nat):It:=⟨λi _=>i<n,λi H x f=>f=H/\x = .int (lo+i),λi _=>n<=i⟩
def QlL{K:aa} a it:Turn P w K tg (Itl K a) [it] it (λi h=>h.IsListIter it a i) where
 mem:=by simp
 obj:=λi h st b f=>by
  have e :=by simpa using f
  subst e;obtain⟨o,e,c,d⟩:=st;exact⟨o,e,λv z=>by rw[d]at z;cases z⟩
 keep:=λi h h' st k=>st.at λo e=>k it (by simp) o e
 item:=by
  intro X D hw hK hc i j s σ H E I hf st J;subst D hw hK;obtain⟨xs,x,B,L⟩:=J;obtain⟨M,O,p,hz⟩:=I.list B;obtain⟨u,hu,ru⟩:=O.get L;obtain⟨f0,T,f2,U,Y,f5⟩:=hf it (by simp);refine wpAny_pyNext_list_item st p.isList (by simpa using hu) λh' l sb=>?_;have I1 :=I.turned (t':=s.toks) (λb o f e=>(sb.2 b f).trans e) f0 T U Y f5;obtain⟨o,e,c,d⟩:=id l;exact⟨u,rfl,QhE e c d (by decide) ⟨x,H,I1,ru,⟨rfl,λys hy=>by rw[I.list_inj hy B];exact L⟩,l,λb f=>(hf b f).1⟩⟩
 done:=by
  intro X D hw hK hc i j s σ H E I hf st J;subst D hw hK;obtain⟨xs,B,L⟩:=J;obtain⟨M,O,p,hz⟩:=I.list B;obtain⟨f0,T,f2,U,Y,f5⟩:=hf it (by simp);have hl:=O.length;exact wpAny_pyNext_list_end (I.ok.hd hc) st p.isList (by simp;lia) λh' eb=>⟨rfl,I.turned (λb o f e=>eb b o f e) f0 T U Y f5⟩
 self:=λ_ _ _ _ _ st h=>wpAny_pyIter_listiter st h
def QiW{K:aa} a it:Turn P w K tg (Itt K a) [it] it (λi h=>h.IsTupleIter it a i) where
 mem:=by simp
 obj:=λi h st b j=>by
  have e:b=it:=by simpa using j
  subst e;obtain⟨o,e,c,d⟩:=st;exact⟨o,e,λv z=>by rw[d]at z;cases z⟩
 keep:=λi h D st k=>st.at λo e=>k it (by simp) o e
 item:=by
  intro X L hw hK hc i f s σ H E I hf st M;subst L hw hK;obtain⟨xs,x,J,O⟩:=M;obtain⟨l,T,p,hz⟩:=I.tuple J;obtain⟨u,hu,ru⟩:=T.get O;obtain⟨f0,U,f2,Y,f4,f5⟩:=hf it (by simp);refine wpAny_pyNext_tuple_item st (show s.heap.IsTuple a l.toArray from p) (x:=u) (by simpa using hu) λD B sb=>?_;have I1:Inv X f σ H { s with heap:=D }:=I.turned (t':=s.toks) (λb o j e=>(sb.2 b j).trans e) f0 U Y f4 f5;obtain⟨o,e,c,d⟩:=id B;exact⟨u,rfl,QhE (s:={ s with heap:=D }) e c d (by decide) ⟨x,H,I1,ru,⟨rfl,λys hy=>by rw[I.tuple_inj hy J];exact O⟩,B,λb j=>(hf b j).1⟩⟩
 done:=by
  intro X L hw hK hc i f s σ H E I hf st M;subst L hw hK;obtain⟨xs,J,O⟩:=M;obtain⟨l,T,p,hz⟩:=I.tuple J;obtain⟨f0,U,f2,Y,f4,f5⟩:=hf it (by simp);have hl:=T.length;exact wpAny_pyNext_tuple_end (I.ok.hd hc) st (show s.heap.IsTuple a l.toArray from p) (by simp;omega) λD eb=>⟨rfl,I.turned (t':=s.toks) (λb o j e=>eb b o j e) f0 U Y f4 f5⟩
 self:=λ_ _ _ _ _ st h=>wpAny_pyIter_tupleiter st h
def QiX{K:aa} it lo n:Turn P w K tg (Itr lo n) [it] it (λi h=>IsRangeIter h it (lo+i*1) (n-i) 1) where
 mem:=by simp
 obj:=λi h st b j=>by
  have e :=by simpa using j
  subst e;exact⟨_,st,λv z=>by
   have Y :=z;cases Y⟩
 keep:=λi h B st k=>k it (by simp) _ st
 item:=by
  intro X T hw hK hc i f s U H E I hf st D;subst T hw hK;obtain⟨f0,J,f2,L,M,O⟩:=hf it (by simp);have W:=Walks.range (prog:=X.prog) (w:=X.w) (I.ok.hd hc) it lo 1 n;refine W.item i s _ _ D st λv B tk hv l kk=>?_;obtain⟨t,rfl⟩:=hv;have I1:Inv X f U H { s with heap:=B,toks:=tk }:=I.turned (λb o j e=>kk b o (by simpa using j) e) f0 J L M O;refine⟨_,rfl,QhE l rfl rfl (by decide) ⟨.int (lo+i),H,I1,⟨t,?_⟩,⟨rfl,rfl⟩,l,λb j=>(hf b j).1⟩⟩;rw[Int.mul_one]
 done:=by
  intro X T hw hK hc i f s U H E I hf st D;obtain⟨f0,J,f2,L,M,O⟩:=hf it (by simp);exact lZ (I.ok.hd hc) st (by have:n<=i:=D;lia) λB eb=>⟨rfl,I.turned (λb o j e=>eb b o j e) f0 J L M O⟩
 self:=λ_ _ _ _ _ st h=>l6 st h
section
def iList(K:aa)(tl:TE):TI:=λj H R=>tl j H λx f=>∃a,x = .ref a/\(∃xs,SqL K f a xs)/\R (Itl K a) f
def iTup(K:aa)(tl:TE):TI:=λj H R=>tl j H λx f=>∃a,x = .ref a/\(∃xs,SqT K f a xs)/\R (Itt K a) f
def pi_list(hl:PE X l tl):PI X T l (iList X.K tl):=by
 intro f s B H R I h;refine thn (hl f s B H _ I h) λv s1 D=>?_;obtain⟨x,E,j,J,L⟩:=D;obtain⟨a,e,⟨xs,M⟩,q⟩:=L;subst e;cases J;obtain⟨O,U,p,hz⟩:=j.list M;refine hX p.isList ?_;refine⟨s1.heap.objs.size,[s1.heap.objs.size],_,_,E,rfl,j.kept λb o e=>af _ e,QlL a _,⟨_,ay _ rfl,rfl,rfl⟩,λb Y=>?_,q⟩;have e:b=s1.heap.objs.size:=by grind
 subst e;exact j.fpOk (aB _) (j.hok.fresh (aB _))
def pi_tup(hl:PE X l tl):PI X T l (iTup X.K tl):=by
 intro f s B H R I h;refine thn (hl f s B H _ I h) λv s1 D=>?_;obtain⟨x,E,j,J,L⟩:=D;obtain⟨a,e,⟨xs,M⟩,q⟩:=L;subst e;cases J;obtain⟨O,U,p,hz⟩:=j.tuple M;refine fD (p) ?_;refine⟨s1.heap.objs.size,[s1.heap.objs.size],_,_,E,rfl,j.kept λb o e=>af _ e,QiW a _,⟨_,ay _ rfl,rfl,rfl⟩,λb Y=>?_,q⟩;have e:b=s1.heap.objs.size:=by grind
 subst e;exact j.fpOk (aB _) (j.hok.fresh (aB _))
def range_it{lo f:Int}(I:Inv X l B H s)(h1 : -(2^62)<=lo)(h2:lo<2^62)(D : -(2^62)<=f)(J:f<2^62)(q:R (Itr lo (f-lo).toNat) H):aE (model X.prog X.w) X.A (l8 (.ref s.heap.objs.size)) (PIE X l B L R) E { s with heap:=s.heap.push { cls := .type "range",data := .fields #[.int lo t,.int f u,.int 1 v] },toks:=tk }:=by
 refine wpAny_pyIter_range (IsRange.new ..) (small_one h1 h2 D J) ?_;have j:Inv X l B H { s with heap:=s.heap.push { cls := .type "range",data := .fields #[.int lo t,.int f u,.int 1 v] },toks:=tk }:=I.kept λb o e=>af _ e;refine⟨(s.heap.push { cls := .type "range",data := .fields #[.int lo t,.int f u,.int 1 v] }).objs.size,[(s.heap.push { cls := .type "range",data := .fields #[.int lo t,.int f u,.int 1 v] }).objs.size],_,_,H,rfl,
  j.kept λb o e=>af _ e,QiX _ lo (f-lo).toNat,?_,λb M=>?_,q⟩
 .have e1:lo+((0:Nat))*1=lo:=by simp
  have e2:(((f-lo).toNat))-((0:Nat))=eG lo f 1:=by grind[rangeSize_one]
  rw[e1,e2];exact ay _ rfl
 .have e:b=(s.heap.push { cls := .type "range",data := .fields #[.int lo t,.int f u,.int 1 v] }).objs.size:=by grind
  subst e;exact j.fpOk (aB _) (j.hok.fresh (aB _))
def iRng1(f:TA):TI:=λl H R=>f l H λvs B=>∃j ,vs=[.int j] /\ -(2^62)<=j/\j<2^62/\R (Itr 0 j.toNat) B
def Qfr(D:Gl X "range")(hm:X.mg "range"=none)(J:PA X [a] L)(M:ah [a] X.env=[(false,eval a X.env)]:=by rfl):PI X tg (.Call (.Name "range" p) [a] [] l) (iRng1 L):=by
 intro f s E H R I h;refine Call_ (Qbt I D hm boot_range (cX (thn (J l f s E H _ I h) λus s1 O=>?_) M rfl));obtain⟨vs,H1,T,U,B⟩:=O;obtain⟨j,e,B,Y,q⟩:=B;subst e;cases U with
 |cons r rr =>
  cases rr;obtain⟨t,rfl⟩:=r;exact call_range_1 (range_it T (by lia) (by lia) B Y (by simpa using q))
def tFor(I:TI)(g:TG)(tb:TS):TS:=λD f H=>I f H λJ L=>∃W:Nat->Nat->St->Hp->Prop,(∃m,W 0 m f L)/\∀i m f H,W i m f H ->
 (J.stop i H/\D.nx f H)\/(J.go i H/\∃N ,(∀j l,N j l->∃E,E<m/\W (i+1) E j l)/\∀x l,J.yld i H x l->g x f l λB M=>tb { D with nx:=N,ct:=N,bk:=D.nx } B M)
def QeR(f:List Addr)(h:Heap):List (Addr×Obj):=f.filterMap λb=>(h.get? b).map λo=>(b,o)
def Qah(f:b∈l)(e:h.get? b=some o):(b,o)∈QeR l h:=bw.mpr ⟨b,f,by rw[e];rfl⟩
def Qmg(f:p∈QeR l h):p.1∈l/\h.get? p.1=some p.2:=by
 obtain⟨b,j,e⟩:=bw.mp f;cases q:h.get? b with
 |none=>rw[q]at e;cases e
 |some o =>
  rw[q]at e;have B :=br e;subst B;exact⟨j,q⟩
def Inv.pinned(I:Inv X f D H s)(hf:∀b∈l,FpOk X f H b)(ho:∀b∈l,∃o,s.heap.get? b=some o/\∀v,o.data≠.cell v):Inv X (f++QeR l s.heap) D H s :=
 I.pins_of λp E=>(aP.mp E).elim (λz=>I.pin p (aV _ z)) λz=>by
  obtain⟨j,e⟩:=Qmg z;obtain⟨f0,J,L,_⟩:=hf p.1 j;obtain⟨o,B,d⟩:=ho p.1 j;rw[e]at B;cases B;exact⟨e,f0,J,L,d⟩
def Inv.unpinned(I:Inv X (f++B) l H s):Inv X f l H s:=I.pins_of λp j=>I.pin p (aV _ (cy _ j))
def Qkf(hp:f7 (model X.prog X.w) X.A X.env X.xe)(hc:X.calm=true)(hi:PI X tg iter wi)(hg:PG X tg g)(B:PSs X body tb)(hs:∀x,cb iter X.env x=pure x:=by intro _;rfl):PS X (.For tg iter body [] bv) (tFor wi g tb):=by
 intro j s σ H D I h;refine wpAny_For (thn (hi j s σ H _ I h) λv s1 h1=>thn h1 λbz s2 h2=>?_) hs;obtain⟨it,fp,tn,J,H2,e,I2,T,aj,f2,W,⟨m0,w0⟩,turn⟩:=h2;subst e
 -- what stays true of the iterator's objects through the loop
 have E:∀{Y:Hp},(∀b∈fp,Y b=none)->∀b∈fp,FpOk X j Y b:=λhn b B=>⟨hn b B,(f2 b B).2⟩
 refine codeAny_forLoop_any (λn s'=>∃i L Y,Inv X j L Y s'/\tn i s'.heap/\(∀b∈fp,Y b=none)/\W i n L Y) ?_ m0 ⟨0,σ,H2,I2,aj,λb B=>(f2 b B).1,w0⟩;rintro n s3 ⟨i,M,H3,I3,az,aq,w3⟩;rcases turn i n M H3 w3 with⟨stop,qn⟩|⟨go,N,hN,step⟩
 .refine eL hp (thn (T.done X rfl rfl rfl hc i j s3 M H3 X.xe I3 (E aq) az stop) λr s4 ⟨hr,I4⟩=>?_);subst hr;exact fB ⟨M,H3,I4,qn⟩
 .refine eL hp (thn (T.item X rfl rfl rfl hc i j s3 M H3 X.xe I3 (E aq) az go) λr s4 zz=>?_);obtain⟨u,hr,h4⟩:=zz;subst hr;refine eL hp (thn h4 λ_ s5 zz=>?_);obtain⟨x,H5,I5,r5,y5,av,ak⟩:=zz;have aJ:=I5.pinned (E ak) (T.obj _ _ av);refine eL hp (thn (hg _ s5 M H5 x u _ aJ r5 (step x H5 y5)) λ_ s6 zz=>?_);obtain⟨aZ,H6,I6,q6⟩:=zz;refine eL hp (thn (B _ s6 aZ H6 _ I6 q6) λf s7 q7=>?_);have again:∀{l:St}{O:Hp},Inv X (j++QeR fp s5.heap) l O s7->N l O->∃m,m<n/\∃i L Y,Inv X j L Y s7/\tn i s7.heap/\(∀b∈fp,Y b=none)/\W i m L Y:=λ{l O} U n7=>by
   obtain⟨m',hm,w7⟩:=hN l O n7;refine⟨m',hm,i+1,l,O,U.unpinned,T.keep _ _ _ av λb B o e=>(U.pin (b,o) (aV _ (aV _ (Qah B e)))).1,λb B=>?_,w7⟩;obtain⟨o,e,d⟩:=T.obj _ _ av b B;exact(U.pin (b,o) (aV _ (aV _ (Qah B e)))).2.1
  cases f with
  |brk=>obtain⟨l,O,U,q7⟩:=q7;exact⟨l,O,U.unpinned,q7⟩
  |ret v=>obtain⟨x7,l,O,U,r7,q7⟩:=q7;exact⟨x7,l,O,U.unpinned,r7,q7⟩
  |_=>obtain⟨l,O,U,n7⟩:=q7;exact again U n7
end
abbrev R2:=V->V->Hp->VK->Prop
def OpR(X:Cx)(f:Value->Value->Sem Value)(r:R2):Prop :=
 ∀j s (l:St) H x y v u Q,Inv X j l H s->RelV x v->RelV y u->r x y H Q ->
  aE (model X.prog X.w) X.A (f v u) (EP X j l Q) X.xe s
def UnR(X:Cx)(f:Value->Sem Value)(r:V->Hp->VK->Prop):Prop :=
 ∀j s (l:St) H x v Q,Inv X j l H s->RelV x v->r x H Q ->
  aE (model X.prog X.w) X.A (f v) (EP X j l Q) X.xe s
def YQ(X:Cx)(f:Value)(r:List V->Hp->VK->Prop):Prop :=
 ∀j s (l:St) H xs us Q,Inv X j l H s->Vals xs us->r xs H Q ->
  aE (model X.prog X.w) X.A (call f us) (EP X j l Q) X.xe s
def TruR(X:Cx)(r:V->Hp->(Bool->Hp->Prop)->Prop):Prop :=
 ∀f s (j:St) H x v Q,Inv X f j H s->RelV x v->r x H Q ->
  aE (model X.prog X.w) X.A (truthy v) (TP X f j Q) X.xe s
def tOp(r:R2)(l tb:TE):TE:=λf H Q=>l f H λx j=>tb f j λy B=>r x y B Q
def tUn(r:V->Hp->VK->Prop)(f:TE):TE:=λj H Q=>f j H λx l=>r x l Q
def rI(C:Int->Int->Prop)(g:Int->Int->V):R2:=λx y H Q=>∃i j,x = .int i/\y = .int j/\C i j/\Q (g i j) H
def rI0(g:Int->Int->V):R2:=λx y H Q=>∃i j,x = .int i/\y = .int j/\Q (g i j) H
def rU(g:Int->V):V->Hp->VK->Prop:=λx H Q=>∃i,x = .int i/\Q (g i) H
section
def binT(O:PE X a T)(U:PE X b tb){R:V->V->Hp->Prop}(I:Inv X l D H s)(h:T D H λx M=>tb D M λy B=>R x y B){f:Value->Value->Sem Value}(hf:∀v u s2 x y B,Inv X l D B s2->RelV x v->RelV y u->R x y B->aE (model X.prog X.w) X.A (f v u) Q X.xe s2) :
  aE (model X.prog X.w) X.A (eval a X.env) (λv J=>aE (model X.prog X.w) X.A (eval b X.env) (λu L=>aE (model X.prog X.w) X.A (f v u) Q X.xe L) X.xe J) X.xe s:=by
 refine thn (O l s D H _ I h) λv s1 j=>?_;obtain⟨x,M,E,Y,q1⟩:=j;refine thn (U l s1 D M _ E q1) λu s2 j=>?_;obtain⟨y,B,I2,r2,q2⟩:=j;exact hf v u s2 x y B I2 Y r2 q2
def pe_op(ho:OpR X (bV l) r)(B:PE X a D)(J:PE X b tb):PE X (.BinOp a l b L) (tOp r D tb):=by
 intro f s j H Q I h;exact wpAny_BinOp (binT B J I h λv u s2 x y E M O T q=>ho f s2 j E x y v u Q M O T q)
def pe_un(ho:UnR X (unaryOp l) r)(B:PE X a D):PE X (.UnaryOp l a J) (tUn r D):=by
 intro f s j H Q I h;exact UnaryOp_ (thn (B f s j H _ I h) λv s1 ⟨x,E,L,M,O⟩=>ho f s1 j E x v Q L M O)
def opI{g:Int->Int->Int}(rule:∀i j t u s Q E,C i j->Q (.int (g i j) s.toks) { s with toks:=s.toks+1 }->aE (model X.prog X.w) X.A (f (.int i t) (.int j u)) Q E s) :
  OpR X f (rI C λi j=>.int (g i j)):=by
 intro l s J H x y v u Q I B D h;obtain⟨i,j,rfl,rfl,hc,q⟩:=h;obtain⟨t,rfl⟩:=B;obtain⟨t',rfl⟩:=D;exact rule i j t t' s _ _ hc ⟨.int (g i j),H,I.tok _,⟨_,rfl⟩,q⟩
def opI0{g:Int->Int->Int}(rule:∀i j t u s Q E,Q (.int (g i j) s.toks) { s with toks:=s.toks+1 }->aE (model X.prog X.w) X.A (f (.int i t) (.int j u)) Q E s) :
  OpR X f (rI0 λi j=>.int (g i j)):=by
 intro l s J H x y v u Q I B D h;obtain⟨i,j,rfl,rfl,q⟩:=h;obtain⟨t,rfl⟩:=B;obtain⟨t',rfl⟩:=D;exact rule i j t t' s _ _ ⟨.int (g i j),H,I.tok _,⟨_,rfl⟩,q⟩
def opB0{g:Int->Int->Bool}(rule:∀i j t u s Q E,Q (.bool (g i j)) s->aE (model X.prog X.w) X.A (f (.int i t) (.int j u)) Q E s) :
  OpR X f (rI0 λi j=>.bl (g i j)):=by
 intro l s J H x y v u Q I B D h;obtain⟨i,j,rfl,rfl,q⟩:=h;obtain⟨t,rfl⟩:=B;obtain⟨t',rfl⟩:=D;exact rule i j t t' s _ _ ⟨.bl (g i j),H,I,rfl,q⟩
def CPow(i j:Int):Prop:=0<=j/\j<=1000000/\i.natAbs<2^64
def CMul(i j:Int):Prop:=(-(2^64)<i/\i<2^64)\/(-(2^64)<j/\j<2^64)
def CMul.ok(h:CMul i j):IntMulOk i j:=by
 rcases h with⟨h1,h2⟩|⟨h1,h2⟩
 .exact .of_left (intBits_le_64 h1 h2)
 .exact .of_right (intBits_le_64 h1 h2)
def QiV k:(0:Int)<=2^k:=by
 exact Int.natCast_nonneg _
def op_add:OpR X (bV .Add) (rI0 λi j=>.int (i+j)):=opI0 λ_ _ _ _ _ _ _ q=>add_int q
def op_sub:OpR X (bV .Sub) (rI0 λi j=>.int (i-j)):=opI0 λ_ _ _ _ _ _ _ q=>sub_int q
def op_mul:OpR X (bV .Mult) (rI CMul λi j=>.int (i*j)):=opI λ_ _ _ _ _ _ _ hc q=>mul_int q hc.ok
def op_mod:OpR X (bV .Mod) (rI (λ_ j=>0<j) λi j=>.int (i%j)):=opI λi j _ _ _ _ _ hc q=>by
 exact mod_int' (by lia) (by rw[Int.fmod_eq_emod_of_nonneg i (by lia)];exact q)
def op_shl:OpR X (bV .LShift) (rI CPow λi j=>.int (i*2^j.toNat)):=opI λ_ _ _ _ _ _ _ hc q=>lshift_int_small hc.1 hc.2.1 hc.2.2 q
def op_shr:OpR X (bV .RShift) (rI (λ_ j=>0<=j) λi j=>.int (i/2^j.toNat)):=opI λi j _ _ _ _ _ hc q =>
 rshift_int hc (by rw[jL i (QiV _)];exact q)
def op_and:OpR X (bV .BitAnd) (rI0 λi j=>.int (jc i j)):=opI0 λ_ _ _ _ _ _ _ q=>and_int q
def op_or:OpR X (bV .BitOr) (rI0 λi j=>.int (gl i j)):=opI0 λ_ _ _ _ _ _ _ q=>or_int q
def iop_or:OpR X (jU .BitOr) (rI0 λi j=>.int (gl i j)):=opI0 λ_ _ _ _ _ _ _ q=>ior_int q
def unI{g:Int->Int}(rule:∀i t s Q E,Q (.int (g i) s.toks) { s with toks:=s.toks+1 }->aE (model X.prog X.w) X.A (f (.int i t)) Q E s) :
  UnR X f (rU λi=>.int (g i)):=by
 intro j s B H x v Q I l h;obtain⟨i,rfl,q⟩:=h;obtain⟨t,rfl⟩:=l;exact rule i t s _ _ ⟨.int (g i),H,I.tok _,⟨_,rfl⟩,q⟩
def un_neg:UnR X (unaryOp .USub) (rU λi=>.int (-i)):=unI λ_ _ _ _ _ q=>neg_int q
def un_inv:UnR X (unaryOp .Invert) (rU λi=>.int (dh i)):=unI λ_ _ _ _ _ q=>invert_int q
end
section
def Qdk(I:Inv X f l H s)(q:Q (.bl k) H)(e:k=B):EP X f l Q (.bool B) s:=by
 subst e;exact⟨.bl k,H,I,rfl,q⟩
def op_lt:OpR X (bI .Lt) (rI0 λi j=>.bl (decide (i<j))):=opB0 λ_ _ _ _ _ _ _ q=>lt_int q
def op_le:OpR X (bI .LtE) (rI0 λi j=>.bl (decide (i<=j))):=opB0 λ_ _ _ _ _ _ _ q=>le_int q
def op_gt:OpR X (bI .Gt) (rI0 λi j=>.bl (decide (j<i))):=opB0 λ_ _ _ _ _ _ _ q=>gt_int q
def op_ge:OpR X (bI .GtE) (rI0 λi j=>.bl (decide (j<=i))):=opB0 λ_ _ _ _ _ _ _ q=>ge_int q
def op_isN:OpR X (bI .Is) (λx y H Q=>y = .non/\Q (.bl (decide (x = .non))) H):=by
 intro f s B H x y v u Q I j l h;obtain⟨rfl,q⟩:=h;cases l;refine is_none_gen (Qdk I q ?_);cases x<;>first
  | (cases j;rfl)
  | (obtain⟨t,rfl⟩:=j;rfl)
def op_notN:OpR X (bI .IsNot) (λx y H Q=>y = .non/\Q (.bl (!decide (x = .non))) H):=by
 intro f s B H x y v u Q I j l h;obtain⟨rfl,q⟩:=h;cases l;refine isnot_none_gen (Qdk I q ?_);cases x<;>first
  | (cases j;rfl)
  | (obtain⟨t,rfl⟩:=j;rfl)
def pe_cmpR(ho:OpR X (bI l) r)(B:PE X a D)(J:PE X b tb)(hm:jk l b=false):PE X (.Compare a [l] [b] L) (tOp r D tb):=by
 intro f s j H Q I h;exact wpAny_Compare1 (binT B J I h λv u s2 x y E M O T q=>ho f s2 j E x y v u Q M O T q) hm
def tTest(t:TE):TT:=λf H Q=>t f H λx j=>∃k,x = .bl k/\Q k j
def pt_cmpR(ho:OpR X (bI l) r)(B:PE X a D)(J:PE X b tb)(hm:jk l b=false):PT X (.Compare a [l] [b] L) (tTest (tOp r D tb)):=by
 intro f s j H Q I h;refine wpAny_isTrue_Compare1 (thn (B f s j H _ I h) λv s1 ⟨x,E,M,O,T⟩=>thn (J f s1 j E _ M T) λu s2 ⟨y,U,Y,r2,q2⟩ =>
  thn (ho f s2 j U x y v u _ Y O r2 q2) λc s3 ⟨z,H3,I3,r3,k,e,q3⟩=>?_) hm
 subst e;cases r3;exact cO ⟨H3,I3,q3⟩
def QjY(r l:R2)(B tb tc:TE):TE:=λf H Q=>B f H λx D=>tb f D λy E=>r x y E λz j=>∃k,z = .bl k /\
 (if k=true then tc f j λI J=>l y I J Q else Q (.bl false) j)
def pe_chain(ho:OpR X (bI D) r)(B:OpR X (bI l) O)(T:PE X a U)(Y:PE X b tb)(hc:PE X c tc)(hm:lN [D,l] [b,c]=false:=by with_unfolding_all rfl):PE X (.Compare a [D,l] [b,c] av) (QjY r O U tb tc):=by
 intro f s j H Q I h;refine Compare_chain (thn (T f s j H _ I h) λv s1 ⟨x,H1,I1,r1,q1⟩=>chain_link (thn (Y f s1 j H1 _ I1 q1) λu s2 ⟨y,H2,I2,E,q2⟩ =>
  thn (ho f s2 j H2 x y v u _ I2 r1 E q2) λd s3 ⟨z,J,L,r3,k,e,M⟩=>?_)) hm
 subst e;cases r3;refine cO ?_;cases k with
 |false=>exact ite_ff ⟨.bl false,J,L,rfl,M⟩
 |true=>exact ite_tt (chain_last (thn (hc f s3 j J _ L M) λw' s4 ⟨z',H4,I4,r4,q4⟩=>B f s4 j H4 y z' u w' Q I4 E r4 q4))
def pt_chain(ho:OpR X (bI D) r)(B:OpR X (bI l) O)(T:PE X a U)(Y:PE X b tb)(hc:PE X c tc)(hm:lN [D,l] [b,c]=false:=by with_unfolding_all rfl):PT X (.Compare a [D,l] [b,c] av) (tTest (QjY r O U tb tc)):=by
 intro f s j H Q I h;refine isTrue_chain (thn (T f s j H _ I h) λv s1 ⟨x,H1,I1,r1,q1⟩=>test_link (thn (Y f s1 j H1 _ I1 q1) λu s2 ⟨y,H2,I2,E,q2⟩ =>
  thn (ho f s2 j H2 x y v u _ I2 r1 E q2) λd s3 ⟨z,J,L,r3,k,e,M⟩=>?_)) hm
 subst e;cases r3;refine cO ?_;cases k with
 |false =>
  obtain⟨k',e',q'⟩:=M;cases e';exact ite_ff ⟨J,L,q'⟩
 |true =>
  refine ite_tt (test_last (thn (hc f s3 j J _ L M) λw' s4 ⟨z',H4,I4,r4,q4⟩=>thn (B f s4 j H4 y z' u w' _ I4 E r4 q4) λd' s5 zz=>?_));obtain⟨z2,H5,I5,r5,k2,e2,q5⟩:=zz;subst e2;cases r5;exact cO ⟨H5,I5,q5⟩
def TruV(K:aa)(x:V)(H:Hp)(k:Bool):Prop :=
 match x with
 |.non=>k=false
 |.bl b=>k=b
 |.int i=>k=(i != 0)
 |.str y=>y.length<=aI/\k=((y.length:Int) != 0)
 |.byt y=>y.size<=aI/\k=((y.size:Int) != 0)
 |.ref p=>(∃xs,SqL K H p xs/\k = !xs.isEmpty)\/(∃xs,SqT K H p xs/\k = !xs.isEmpty)\/∃f,H p=some (.dK f)/\k = !f.isEmpty
 |_=>False
def Qjv(r:KV f vs):(!vs.isEmpty) = !f.isEmpty:=by
 cases r<;>rfl
def QdC(r:Vals xs f):(!f.toArray.isEmpty) = !xs.isEmpty:=by
 cases r<;>simp
def Qkp:aI<2^63:=by decide
def tru_ok:TruR X (λx H Q=>∃k,TruV X.K x H k/\Q k H):=by
 intro L s T H x v Q I B h;obtain⟨k,e,q⟩:=h;have U:aI=16777216:=gs;cases x with
 |non =>
  cases B;have f:k=false:=e;subst f;exact truthy_none ⟨H,I,q⟩
 |bl b =>
  cases B;have f:k=b:=e;subst f;exact cO ⟨H,I,q⟩
 |int i =>
  obtain⟨t,rfl⟩:=B;have f:k=(i != 0):=e;subst f;exact PySem.P.truthy_int ⟨H,I,q⟩
 |str y =>
  obtain⟨t,rfl⟩:=B;obtain⟨M,f⟩:y.length<=aI/\k=((y.length:Int) != 0):=e;subst f;exact PySem.P.truthy_str (by lia) ⟨H,I.tok _,q⟩
 |byt y =>
  obtain⟨t,rfl⟩:=B;obtain⟨M,f⟩:y.size<=aI/\k=((y.size:Int) != 0):=e;subst f;exact PySem.W.truthy_bytes (by lia) ⟨H,I.tok _,q⟩
 |ref p =>
  cases B;have f:(∃xs,SqL X.K H p xs/\k = !xs.isEmpty)\/(∃xs,SqT X.K H p xs/\k = !xs.isEmpty)\/∃j,H p=some (.dK j)/\k = !j.isEmpty:=e;rcases f with⟨xs,D,f⟩|⟨xs,D,f⟩|⟨j,D,f⟩
  .subst f;obtain⟨E,r,J,hz⟩:=I.list D;have l:=r.length;exact wpAny_truthy_list J.isList (by simp only[aQ];lia) ⟨H,I.tok _,by rw[QdC r];exact q⟩
  .subst f;obtain⟨E,r,J,hz⟩:=I.tuple D;have l:=r.length;exact truthy_tuple J (by simp only[aQ];lia) ⟨H,I.tok _,by rw[QdC r];exact q⟩
  .subst f;obtain⟨hz,O,vs,r,m⟩:j.length<=aI/\(p==sysModules)=false/\∃vs,KV j vs/\s.heap.DictOf (QgC X.prog X.w) p vs:=I.hok p _ D;have l:j.length=vs.length:=Paired.length r;exact wpAny_truthy_dict O m (by lia) ⟨H,I.tok _,by rw[Qjv r];exact q⟩
 |_=>exact(show False from e).elim
def pt_truth(D:PE X a J)(he:∀whole,isTrue a X.env whole=(do let v <-whole;gG a.pos;holding [v] (truthy v))) :
  PT X a (λl H Q=>J l H λx B=>∃k,TruV X.K x B k/\Q k B):=by
 intro f s l H Q I h;exact isTrue_plain (thn (D f s l H _ I h) λv s1 ⟨x,j,E,L,M⟩=>tru_ok f s1 l j x v Q E L M) (he _)
def Qji:OpR X (bV .Add) (λx y H Q=>∃i j,x = .str i/\y = .str j/\i.length+j.length<=aI/\Q (.str (i++j)) H):=by
 intro f s D H x y v u Q I l B h;obtain⟨i,j,rfl,rfl,hz,q⟩:=h;obtain⟨t,rfl⟩:=l;obtain⟨t',rfl⟩:=B;exact add_str (λt' tk=>⟨.str (i++j),H,I.tok _,⟨_,rfl⟩,q⟩) hz
def Yq(r:Vals [x] us):∃u,us=[u]/\RelV x u:=by
 cases r with
 |cons f j=>cases j;exact⟨_,rfl,f⟩
def vals2(r:Vals [x,y] us):∃u f,us=[u,f]/\RelV x u/\RelV y f:=by
 cases r with
 |cons j l =>
  cases l with
  |cons B D=>cases D;exact⟨_,_,rfl,j,B⟩
def QmZ(hc:X.calm=true):YQ X (.builtin "min") (λxs H Q=>∃i j,xs=[.int i,.int j]/\Q (.int (if j<i then j else i)) H):=by
 intro f s l H xs us Q I r h;obtain⟨i,j,rfl,q⟩:=h;obtain⟨u,B,rfl,⟨t,rfl⟩,⟨t',rfl⟩⟩:=vals2 r;refine min_two_ints (I.ok.hd hc) λD tk k=>⟨_,H,I.kept k,?_,q⟩
 by_cases hj:j<i
 .rw[au hj,au hj];exact⟨_,rfl⟩
 .rw[aK hj,aK hj];exact⟨_,rfl⟩
def LenV(K:aa)(x:V)(H:Hp)(n:Nat):Prop :=
 match x with
 |.str y=>y.length<=aI/\n=y.length
 |.byt y=>y.size<=aI/\n=y.size
 |.ref p=>(∃xs,SqL K H p xs/\n=xs.length)\/∃xs,SqT K H p xs/\n=xs.length
 |_=>False
def call_len:YQ X (.builtin "len") (λxs H Q=>∃x n,xs=[x]/\LenV X.K x H n/\Q (.int n) H):=by
 intro L s O H xs us Q I r h;obtain⟨x,n,rfl,e,q⟩:=h;obtain⟨u,rfl,j⟩:=Yq r;have T :=gs;cases x with
 |str y =>
  obtain⟨t,rfl⟩:=j;obtain⟨M,f⟩:y.length<=aI/\n=y.length:=e;subst f;exact len_str (by omega) ⟨.int _,H,I.tok _,⟨_,rfl⟩,q⟩
 |byt y =>
  obtain⟨t,rfl⟩:=j;obtain⟨M,f⟩:y.size<=aI/\n=y.size:=e;subst f;exact PySem.W.len_bytes (by omega) ⟨.int _,H,I.tok _,⟨_,rfl⟩,q⟩
 |ref p =>
  cases j;have f :=e;rcases f with⟨xs,B,f⟩|⟨xs,B,f⟩
  .subst f;obtain⟨D,E,J,hz⟩:=I.list B;have l:=E.length;exact Calls.call_len_list J.isList (by grind) ⟨.int xs.length,H,I.tok _,⟨_,by simp only[aQ];rw[l]⟩,q⟩
  .subst f;obtain⟨D,E,J,hz⟩:=I.tuple B;have l:=E.length;exact len_tuple J (by grind) ⟨.int xs.length,H,I.tok _,⟨_,by simp only[aQ];rw[l]⟩,q⟩
 |_=>exact(e).elim
end
structure ObjM (h:Heap) (x dx C:Addr) (mA:Str->Option Value):Prop where
 obj:h.get? x=some (eV C dx)
 ns:h.Ns1 dx mA
 ne:dx≠x
set_option tactic.hygienic true in
def Qmo{h:Heap}(n:h.Ns1 B D):∃l,h.get? B=some l/\∀name,iw name l=some (D name):=by
 obtain⟨o,j,J,ho,hd,E,_,hm⟩:=n;refine⟨o,ho,λname=>?_⟩;have e:=hm name;unfold nsFind findBy at e;rw[<-Array.find?_toList]at e;delta iw;rw[hd];dsimp only;split
 .rename_i y q;rw[q]at e;exact congrArg some e
 .rename_i q;rw[q]at e;have a:j.toList.any (·.refKey)=false:=by
   rw[fw];intro y H;obtain⟨z,t,f⟩:=E y (Array.mem_toList_iff.mp H);simp[DictEntry.refKey,f]
  have I:¬j.toList.any (·.refKey)=true:=by rw[a];exact gx
  rw[aK I];exact congrArg some e
def ObjM.look(I:ObjM h x l C B):∃f,PySem.W.InstAt h x (eV C l) C (some f)/\∀name,iw name f=some (B name) :=
 let ⟨f,ho,hl⟩:=Qmo I.ns
 ⟨f,⟨I.obj,rfl,rfl,ho⟩,hl⟩
section
def get_map{s:aC}{K:aa}(X:K.In s.heap)(I:ObjM s.heap x O C l)(B:gS K C name=true)(D:i3 K C=true)(L:d6 K (.ref C) name=some none)(M:l name=some v)(f:md v=true)(h:Q v { s with toks:=s.toks+1 }) :
  aE (model prog w) A (getAttr (.ref x) name expr) Q E s:=by
 obtain⟨j,J,hl⟩:=I.look;exact PySem.W.get_value X J (iD B).1 (PySem.W.findObj_own D L rfl (by rw[hl,M])) f h
def get_meth{s:aC}{K:aa}(X:K.In s.heap)(I:ObjM s.heap x M C B)(l:gS K C name=true)(hf:d6 K (.ref C) name=some (some (.ref f)))(D:kh K (.ref f)=true)(L:B name=none)(h:Q (.ref f,[.ref x]) s) :
  aE (model prog w) A (fg (.ref x) name O) Q E s:=by
 obtain⟨j,J,hl⟩:=I.look;exact PySem.W.method_fn X J (iD l).1 (iD l).2 hf (bg.mp D) (by show(iw name j).map (·.isSome)=some false;rw[hl,L];rfl) h
def set_map{s:aC}{K:aa}(X:K.In s.heap)(I:ObjM s.heap x M C O)(T:d6 K (.ref C) "__setattr__"=some (some (.builtin "object.__setattr__")))(U:lP K C=true)(Y:jr K C name=some none)(hh:i3 K C=true)(hw:kg O ns)(av:ns.length<=aI)(h:∀l,ObjM l x M C (λy=>if y=name then some v else O y)->bR M s.heap l->Q () { s with heap:=l,toks:=s.toks+2 }) :
  aE (model prog w) A (setAttr (.ref x) name v) Q E s:=by
 obtain⟨od,J,hl⟩:=I.look;refine PySem.W.set_plain X J T (PySem.W.osa_open X J U Y λb=>?_);obtain⟨cd,hc,B⟩:=PySem.W.any_some hh;have hx :=I.obj;refine ac (ag (ac (ac (wpAny_loadPart hx (ac (PySem.W.Looks.here (PySem.W.looks_clsIn X hc) ?_))))));rw[B];refine ag (ac (ag (ac ?_)));refine wpAny_nsSet1 I.ns λl f j=>?_;obtain⟨oD,az,aq,D,H,L⟩:=f.count (kg.cons name v hw);refine ac (wpAny_lookBehind D (by rw[H];exact pastItsLine_dict (aS L (by rw[aG];lia))) ?_);exact ag (h _ ⟨(j.2 _ (Ne.symm I.ne)).trans I.obj,f,I.ne⟩ j)
def make_map{A:dm}{s:aC}{K:aa}(X:K.In s.heap)(hm:my K C=true)(B:d6 K (.ref C) "__init__"=some (some (.ref f)))(hf:PySem.W.typeIn K (.ref f)=some (.type "function"))(h:fC (model prog w) (A.under (.builtin "type.__call__" ⟨.ref C::vs,l⟩)) (.call (.ref f) ⟨.ref (s.heap.objs.size+1)::vs,l⟩) (PySem.W.InitBack (s.heap.objs.size+1) R)
   {s with heap:=(s.heap.push dU).push (eV C s.heap.objs.size) }) :
  fC (model prog w) A (.call (.ref C) ⟨vs,l⟩) R s:=by
 obtain⟨j,g,d,t,os⟩:=s;exact PySem.W.make_core (PySem.W.makes_of X hm) (PySem.W.looks_findIn X B) (λself=>PySem.W.bind_fn X self hf) (.inl rfl) h
end
noncomputable def putF(f:Str)(v:V):List (Str×V)->List (Str×V)
 |[]=>[(f,v)]
 | (g,x)::r=>if g=f then (g,v)::r else (g,x)::putF f v r
theorem QcQ f g v:∀fs ,(putF f v fs).lookup g=if g=f then some v else fs.lookup g
 |[]=>by
  show fQ g [(f,v)]=_;by_cases h:g=f
  .have j :=bg.mpr h;simp only[fQ,j,au h]
  .have j :=aW.mpr h;simp only[fQ,j,aK h]
 | (k,x)::r=>by
  have B:=QcQ f g v r;rw[show putF f v ((k,x)::r)=(if k=f then (k,v)::r else (k,x)::putF f v r) from rfl];by_cases l:k=f
  .rw[au l];by_cases h:g=k
   .have j :=bg.mpr h;simp only[fQ,j,au (h.trans l)]
   .have j :=aW.mpr h;simp only[fQ,j,aK (λe:g=f=>h (e.trans l.symm))]
  .rw[aK l];by_cases h:g=k
   .have j :=bg.mpr h;simp only[fQ,j,aK (λe=>l (h.symm.trans e))]
   .have j :=aW.mpr h;simp only[fQ,j];exact B
theorem QcJ f v:∀fs ,f∈(putF f v fs).map (·.1)/\∀g,g∈fs.map (·.1)->g∈(putF f v fs).map (·.1)
 |[]=>⟨by simp[putF],λg h=>by simp at h⟩
 | (k,x)::r=>by
  obtain⟨l,B⟩:=QcJ f v r;rw[show putF f v ((k,x)::r)=(if k=f then (k,v)::r else (k,x)::putF f v r) from rfl];by_cases j:k=f
  .subst j;exact⟨by simp,λg h=>by simpa using h⟩
  .rw[aK j];refine⟨?_,λg h=>?_⟩
   .exact ax _ l
   .rcases ap.mp h with e | e
    .exact ap.mpr (.inl e)
    .exact ax _ (B g e)
theorem QcR f v:∀fs ,(putF f v fs).length<=fs.length+1
 |[]=>by simp[putF]
 | (k,x)::r=>by
  have l:=QcR f v r;rw[show putF f v ((k,x)::r)=(if k=f then (k,v)::r else (k,x)::putF f v r) from rfl];by_cases j:k=f
  .rw[au j,aG,aG];lia
  .rw[aK j,aG,aG];lia
def RelO.some_of(r:RelO (some v) o):∃u,o=some u/\RelV v u:=by
 cases o with
 |none=>exact(r).elim
 |some u=>exact⟨u,rfl,r⟩
def RelO.none_of(r:RelO none o):o=none:=by
 cases o with
 |none=>rfl
 |some u=>exact(r).elim
def QmA(r:RelV v u):md u=true:=by
 cases v with
 |int i=>obtain⟨t,e⟩:=(r);cases e;rfl
 |str x=>obtain⟨t,e⟩:=(r);cases e;rfl
 |byt b=>obtain⟨t,e⟩:=(r);cases e;rfl
 |flt b=>obtain⟨t,e⟩:=(r);cases e;rfl
 |_=>cases (r);rfl
section
def QgG(hok:HOk P w H h)(e:H a=some (.ins C B fs)):∃l,ObjM h a B C l/\(∀f,RelO (fs.lookup f) (l f))/\kg l (fs.map (·.1))/\fs.length<=1000/\H B=some (.own a):=by
 obtain⟨d,z,ne,ob,l,n,r,q⟩:=(hok a _ e)
 exact⟨l,⟨ob,n,ne⟩,r,q,z,d⟩
end
structure Cls (K:aa) (C:Addr):Prop where
 pg:gS K C fj=true
 hd:i3 K C=true
 po:lP K C=true
 sa:d6 K (.ref C) "__setattr__"=some (some (.builtin "object.__setattr__"))
def Cls.get{K:aa}(c:Cls K C) f:gS K C f=true:=c.pg
def XX(K:aa)(C:Addr)(f:Str):Prop:=d6 K (.ref C) f=some none
def XX.taker{K:aa}(n:XX K C f):jr K C f=some none:=by
 delta jr;rw[n];rfl
structure Meth (K:aa) (C:Addr) (m:Str) (f:Addr):Prop where
 at_:d6 K (.ref C) m=some (some (.ref f))
 fn:kh K (.ref f)=true
 kp:bX K (.ref f)=true
section
def Qjy(I:Inv X B D H s)(e:H a=some (.ins C L fs))(c:Cls X.K C)(n:XX X.K C f)(l:fs.lookup f=some v)(h:∀u s',Inv X B D H s'->RelV v u->Q u s'):aE (model X.prog X.w) A (getAttr (.ref a) f b) Q E s:=by
 obtain⟨M,O,r,_,_,_⟩:=QgG I.hok e;obtain⟨u,J,j⟩:=RelO.some_of (by rw[<-l];exact r f);exact get_map I.kIn O (c.get f) c.hd n J (QmA j) (h u _ (I.tok _) j)
def QbA(I:Inv X f B H s)(e:H a=some (.ins C D fs))(c:Cls X.K C)(k:Meth X.K C m g)(l:fs.lookup m=none)(h:Q (.ref g,[.ref a]) s):aE (model X.prog X.w) A (fg (.ref a) m J) Q E s:=by
 obtain⟨L,O,r,_,_,_⟩:=QgG I.hok e;have j :=RelO.none_of (by rw[<-l];exact r m);exact get_meth I.kIn O (c.get m) k.at_ k.fn j h
def Qje(I:Inv X l J H s)(e:H a=some (.ins C B fs))(c:Cls X.K C)(n:XX X.K C f)(hl:fs.length<1000)(L:RelV y u)(h:∀s',Inv X l J (upd H a (.ins C B (putF f y fs))) s'->Q () s'):aE (model X.prog X.w) A (setAttr (.ref a) f u) Q E s:=by
 obtain⟨M,O,r,D,_,ho⟩:=QgG I.hok e;have hz:(fs.map (·.1)).length<=aI:=by rw[ai,gs];lia
 refine set_map I.kIn O c.sa c.po n.taker c.hd D hz λT j sb=>h _ ?_;have hd:∃o,T.get? B=some o:=let ⟨o,_,_,U,_⟩:=j.ns;⟨o,U⟩;refine I.write (by rw[e];exact hG) (.inr ho) (λb q Y z=>(sb.2 b Y).trans z) hd ?_;refine⟨by rw[Qh O.ne];exact ho,?_,O.ne,j.obj,_,j.ns,λg=>?_,λg hg=>?_⟩
 .have:=QcR f y fs;lia
 .rw[QcQ];by_cases q:g=f
  .rw[au q,au q];exact L
  .rw[aK q,aK q];exact r g
 .by_cases q:g=f
  .rw[q];exact(QcJ f y fs).1
  .refine(QcJ f y fs).2 g (D g λz=>hg ?_);show(if g=f then some u else M g)=none;rw[aK q];exact z
def Inv.made(I:Inv X f l H s):Inv X f l (upd (upd H s.heap.objs.size (.own (s.heap.objs.size+1))) (s.heap.objs.size+1) (.ins C s.heap.objs.size []))
  {s with heap:=(s.heap.push dU).push (eV C s.heap.objs.size) }:=by
 have e1:(s.heap.push dU).get? s.heap.objs.size=some dU:=ay s.heap rfl;have e2 :=by
  have:=ay (s.heap.push dU) (o:=eV C s.heap.objs.size) rfl
  rwa [bH]at this
 have e3:(s.heap.push dU).Ns s.heap.objs.size (λ_=>none):=⟨dU,#[],_,e1,rfl,(λe he=>absurd he (by simp)),λ_=>rfl⟩
 have j:=I.laid (o := .own (s.heap.objs.size+1)) (t':=s.toks) (λb u q=>af _ q) (aB _) ⟨_,e1⟩;refine j.laid (λb u q=>af _ q) (Nat.le_of_eq (bH _ _)) ?_;have ne:s.heap.objs.size≠s.heap.objs.size+1:=aL (cU _);refine⟨by rw[Qh ne,Qf],cG _,ne,e2,λ_=>none,(Heap.Ns1.of_empty e3).at λo q=>af _ q,λ_=>hG,λy B=>absurd rfl B⟩
def attr_of(B:bW e f env (eval e env)=eval e env)(h:aE (model prog w) A (eval e env) (λo l=>aE (model prog w) A (getAttr o f true) Q E l) E s):aE (model prog w) A (eval (.Attribute e f D) env) Q E s :=
 Attribute_any_ h (by rw[arm_eval_Attribute,B])
end
def tFld(K:aa)(l:TE)(f:Str):TE:=λB H Q=>l B H λx j=>∃a C D fs v,x = .ref a/\j a=some (.ins C D fs)/\Cls K C/\XX K C f/\fs.lookup f=some v/\Q v j
def sFld(K:aa)(I J:TE)(f:Str):TS:=λD j H=>J j H λy E=>I j E λx l=>∃a C B fs,x = .ref a/\l a=some (.ins C B fs)/\Cls K C/\XX K C f/\fs.length<1000 /\
 D.nx j (upd l a (.ins C B (putF f y fs)))
section
def pe_fld(he:PE X e B)(D:bW e f X.env (eval e X.env)=eval e X.env):PE X (.Attribute e f J) (tFld X.K B f):=by
 intro j s E H Q I h;refine attr_of D (thn (he j s E H _ I h) λu s1 L=>?_);obtain⟨x,M,O,T,a,C,dx,fs,v,ex,U,c,n,l,q⟩:=L;subst ex;obtain rfl:u=cR a:=T;exact Qjy O U c n l λu' s2 Y ru=>⟨v,M,Y,ru,q⟩
def ps_fld(M:PE X o O)(T:PE X B U)(Y:cB B (some (.Attribute o f J)) L.line X.env=pure false):PS X (.Assign [.Attribute o f J] B L) (sFld X.K O U f):=by
 intro j s E H D I h;refine plainObj_wpAny_Assign_Attribute (thn (T j s E H _ I h) λu s1 ⟨y,H1,I1,ry,q⟩=>thn (M j s1 E H1 _ I1 q) λov s2 zz=>?_) Y;obtain⟨x,H2,I2,rx,a,C,dx,fs,ex,ea,c,n,l,q2⟩:=zz;subst ex;obtain rfl:ov=cR a:=rx;exact Qje I2 ea c n l ry λs3 I3=>⟨E,_,I3,q2⟩
end
structure Room (k:Nat) (A:dm):Prop where
 hd:A.handled=none
 dp:A.depth+3*k+5<recursionLimit
 un:A.units+16*k+200<iL
def Room.mono(r:Room k A)(h:j<=k):Room j A:=⟨r.hd,by have:=r.dp;lia,by have:=r.un;lia⟩
def Room.deeper(r:Room (k+1) A) env:Room k (A.deeper env) :=
 ⟨r.hd,by have:=r.dp;show A.depth+1+3*k+5<_;lia,by have:=r.un;show A.units+3+16*k+200<_;lia⟩
def Qjp{A:dm}:(A.under (.builtin "type.__call__" ⟨.ref C::us,f⟩)).depth=A.depth+1:=by
 first | rfl | simp[       guardIds]
def Qjo{A:dm}:(A.under (.builtin "type.__call__" ⟨.ref C::us,f⟩)).units=A.units+1:=by
 first | rfl | simp[   Code.isFrame]
def Room.make(r:Room (k+1) A) C us f:Room k (A.under (.builtin "type.__call__" ⟨.ref C::us,f⟩)) :=
 ⟨r.hd,by have:=r.dp;rw[Qjp];lia,by have:=r.un;rw[Qjo];lia⟩
def Room.depth(r:Room k A):A.depth<recursionLimit:=by have:=r.dp;lia
def Room.units(r:Room k A):A.units+64<iL:=by have:=r.un;lia
def tNil:TA:=λ_ H Q=>Q [] H
def QjQ(l:TE)(tr:TA):TA:=λf H Q=>l f H λx j=>tr f j λxs B=>Q (x::xs) B
section
def Qav:PA X [] tNil:=λ_ _ _ _ H Q I h=>Calls.spliced_nil ⟨[],H,I,.nil,h⟩
def ZK(D:PE X e te)(hr:PA X l t)(J:ah (e::l) X.env=(false,eval e X.env)::ah l X.env:=by rfl):PA X (e::l) (QjQ te t):=by
 intro j f s B H Q I h;rw[J];show aE _ _ (spliced ((false,eval e X.env)::bx j (ah l X.env))) _ _ s;refine Calls.spliced_cons (thn (D f s B H _ I h) λu s1 E=>?_);obtain⟨x,L,M,O,T⟩:=E;exact thn (hr j f s1 B L _ M T) λus s2 ⟨xs,U,Y,r2,q2⟩=>⟨x::xs,U,Y,.cons O r2,q2⟩
def tTup(t:TA):TE:=λj H Q=>t j H λxs f=>xs.length<=aI/\∀p,f p=none->Q (.ref p) (upd f p (.tup xs))
def tLst(t:TA):TE:=λj H Q=>t j H λxs f=>xs.length<=aI/\∀p,f p=none->Q (.ref p) (upd f p (.lst xs))
def pe_tup(h:PA X B t):PE X (.Tuple B L l) (tTup t):=by
 intro f s D H Q I E;refine wpAny_Tuple_spliced (thn (h l f s D H _ I E) λus s1 ⟨xs,J,j,r,z,q⟩=>⟨by rw[<-r.length];exact z,?_⟩);have hf :=j.hok.fresh (aB _);refine⟨.ref s1.heap.objs.size,upd J s1.heap.objs.size (.tup xs),j.laid (λb u e=>af _ e) (aB _) ?_,rfl,q _ hf⟩;exact⟨z,us,r,⟨_,ay _ rfl,rfl,.inl rfl,_,rfl⟩⟩
def pe_lst(h:PA X B t):PE X (.List B l) (tLst t):=by
 intro f s D H Q I E;refine wpAny_List_spliced (thn (h l f s D H _ I E) λus s1 ⟨xs,J,j,r,z,q⟩=>⟨by rw[<-r.length];exact z,?_⟩);have hf :=j.hok.fresh (aB _);refine⟨.ref s1.heap.objs.size,upd J s1.heap.objs.size (.lst xs),j.laid (λb u e=>af _ e) (aB _) ?_,rfl,q _ hf⟩;exact⟨z,us,0,r,ay _ rfl⟩
end
abbrev Sp:=List V->Hp->VK->XK->Prop
abbrev CXT:=List Env->Hp->aC->XK->Value->aC->Prop
structure Env0 (P:aY) (w:cf) (K:aa) (mg:Str->Option Value) (base:Heap) (A:dm) (outer:List Env) (s:aC) (H:Hp):Prop where
 frames:A.frames=some outer
 mod:Mod K mg base
 bs:∀b o,base.get? b=some o->s.heap.get? b=some o/\H b=none
 bsz:base.objs.size<=s.heap.objs.size
 funs:s.heap.FunFrames base outer
 frf:∀b∈frs outer,H b=none
 hok:HOk P w H s.heap
 bare:iU s.gens
def CE(outer:List Env)(P:aY)(w:cf)(H:Hp)(s:aC)(Q:VK)(u:Value)(s':aC):Prop :=
 ∃v f,s'.os=s.os/\iU s'.gens/\Un (frs outer) [] H f s.heap s'.heap/\HOk P w f s'.heap/\RelV v u/\Q v f
def CR(CX:CXT)(outer:List Env)(P:aY)(w:cf)(H:Hp)(s:aC)(Q:VK)(E:XK)(r:kP)(s':aC):Prop :=
 match r with
 |.ok (.ret u)=>CE outer P w H s Q u s'
 |.ok _=>False
 |.error e=>CX outer H s E e s'
structure FnOk (P:aY) (w:cf) (K:aa) (mg:Str->Option Value) (base:Heap) (CX:CXT) (k:Nat) (f:Addr) (fd:d9) (ps:List Str) (sp:Sp):Prop where
 len:∀vs H Q E,sp vs H Q E->vs.length=ps.length
 run:∀(A:dm)(outer:List Env)(s:aC)(H:Hp)(args:Args)(us:List Value)(vs:List V)(Q:VK)(E:XK),Room k A->Env0 P w K mg base A outer s H->mn s fd args (ps.zip us)->Vals vs us->sp vs H Q E ->
  fC (model P w) A (.call (.ref f) args) (CR CX outer P w H s Q E) s
def FnOk.imp{K:aa}(F:FnOk P w K mg base CX k f fd ps sp)(h:∀vs H Q E,l vs H Q E->sp vs H Q E):FnOk P w K mg base CX k f fd ps l :=
 ⟨λvs H Q E q=>F.len vs H Q E (h _ _ _ _ q),λA outer s H args us vs Q E hr he j B D=>F.run A outer s H args us vs Q E hr he j B (h _ _ _ _ D)⟩
def Env0.make{K:aa}(e:Env0 P w K mg base A outer s H) C us f :
  Env0 P w K mg base (A.under (.builtin "type.__call__" ⟨.ref C::us,f⟩)) outer s H:=⟨by first | exact e.frames | (simpa[   pushEnvs] using e.frames),e.mod,e.bs,e.bsz,e.funs,e.frf,e.hok,e.bare⟩
section
def Inv.env0(I:Inv X f l H s):Env0 X.prog X.w X.K X.mg X.base X.A X.stack s H :=
 ⟨I.ok.frames,I.ok.mod,I.bs,aS I.ok.bsz I.sz,I.stack,I.stkFree,I.hok,I.bare⟩
def Inv.after(I:Inv X f l H s)(h:CE X.stack X.prog X.w H s Q u s'):EP X f l Q u s':=by
 obtain⟨v,B,os,bare,un,hok,r,q⟩:=h;obtain⟨D,g,d,t,j⟩:=s';obtain rfl:j=s.os:=os;exact⟨v,B,I.call un hok bare (λb z=>absurd z (by simp)),r,q⟩
end
def QjR(sp:Sp)(dvs:List V)(E:XK)(t:TA):TE:=λf H Q=>t f H λvs j=>sp (vs++dvs) j Q E
def tMeth(C:Addr)(m:Str)(sp:Sp)(dvs:List V)(E:XK)(l:TE)(t:TA):TE:=λf H Q=>l f H λx j=>∃a B fs,x = .ref a/\j a=some (.ins C B fs)/\fs.lookup m=none /\
 t f j λvs D=>sp (x::(vs++dvs)) D Q E
def tMake(C:Addr)(sp:Sp)(dvs:List V)(E:XK)(t:TA):TE:=λl H Q=>t l H λvs j=>∀x f,j x=none->j f=none->f≠x ->
 sp (.ref x::(vs++dvs)) (upd (upd j f (.own x)) x (.ins C f [])) (λv B=>v = .non/\Q (.ref x) B) E
def Zp(K:aa)(fd:d9)(ps:List Str)(ds:List Value):Prop :=
 ∀s us,K.In s.heap->(us++ds).length=ps.length->mn s fd ⟨us,[]⟩ (ps.zip (us++ds))
def Zp.all{K:aa}(h:∀us ,us.length=ps.length->fM fd ⟨us,[]⟩=pure (ps.zip us)):Zp K fd ps []:=λs us _ hl=>by
 rw[bu]at hl |-;exact .of_eq (h us hl)
def Qay(CX:CXT)(X:Cx)(E:XK):Prop:=∀f (j:St) H s e s',Inv X f j H s->CX X.stack H s E e s'->X.xe e s'
section
def QgR(F:FnOk X.prog X.w X.K X.mg X.base CX k f fd ps sp)(hr:Room k X.A)(J:Zp X.K fd ps ds)(hd:Vals dvs ds)(L:Qay CX X E)(I:Inv X l B H s)(r:Vals vs us)(h:sp (vs++dvs) H Q E):aE (model X.prog X.w) X.A (call (.ref f) us) (EP X l B Q) X.xe s:=by
 have D :=r.append hd;have hl:(us++ds).length=ps.length:=by rw[<-D.length];exact F.len _ _ _ _ h
 refine kE (fh (F.run X.A X.stack s H ⟨us,[]⟩ (us++ds) (vs++dvs) Q E hr I.env0 (J s us I.kIn hl) D h) λr s' j=>?_);cases r with
 |error e=>exact L l B H s e s' I j
 |ok fl =>
  cases fl with
  |ret u=>exact I.after j
  |next=>exact cP j
  |brk=>exact cP j
  |cont=>exact cP j
def Qgy(F:FnOk X.prog X.w X.K X.mg X.base CX k f fd ps sp)(hr:Room k X.A)(M:Gl X x)(hm:X.mg x=some (.ref f))(O:bX X.K (.ref f)=true)(T:Zp X.K fd ps ds)(hd:Vals dvs ds)(U:Qay CX X E)(Y:PA X (e::B) t)(D:(x=="__debug__")=false:=by decide)(he:ah (e::B) X.env=(false,eval e X.env)::ah B X.env:=by rfl)(J:(bx l (ah B X.env)).any (·.1)=false:=by rfl) :
  PE X (.Call (.Name x p) (e::B) [] l) (QjR sp dvs E t):=by
 intro j s σ H Q I h;refine gO (Qcm I M hm ?_ D);refine eg I.ok.mod.kin O (thn (Y l j s σ H _ I h) λus s1 ⟨vs,H1,L,r,q⟩=>⟨L.kIn,?_⟩) he J;exact QgR F hr T hd U L r q
def QkM(he:PE X o ta)(c:Cls X.K C)(hm:Meth X.K C m f)(F:FnOk X.prog X.w X.K X.mg X.base CX k f fd ps sp)(hr:Room k X.A)(hb:Zp X.K fd ps ds)(hd:Vals dvs ds)(hx:Qay CX X E)(ha:PA X (e::J) t)(L:ah (e::J) X.env=(false,eval e X.env)::ah J X.env:=by rfl)(M:(bx B (ah J X.env)).any (·.1)=false:=by rfl)(ht:eval (.Call (.Attribute o m D) (e::J) [] B) X.env=(do
   let O <-eval o X.env
   gG D.atName
   let (f,first) <-holding [O] (fg O m pl)
   gP B f first (bx B (ah (e::J) X.env)) (dI B (ce [] X.env))):=by rfl) :
  PE X (.Call (.Attribute o m D) (e::J) [] B) (tMeth C m sp dvs E ta t):=by
 intro j s T H Q I h;refine fF (thn (he j s T H _ I h) λu s1 zz=>?_) ht;obtain⟨x,H1,U,rx,a,dx,fs,ex,ea,l,q⟩:=zz;subst ex;obtain rfl:u=cR a:=rx;refine QbA U ea c hm l ?_;refine eg I.ok.mod.kin hm.kp (thn (ha B j s1 T H1 _ U q) λus s2 ⟨vs,H2,Y,r,q2⟩=>⟨Y.kIn,?_⟩) L M;exact QgR (vs := .ref a::vs) F hr hb hd hx Y (.cons rfl r) q2
structure Mk (K:aa) (C f:Addr):Prop where
 makes:my K C=true
 init:d6 K (.ref C) "__init__"=some (some (.ref f))
 fn:kh K (.ref f)=true
 kp:bX K (.ref C)=true
def run_make(M:Mk X.K C f)(F:FnOk X.prog X.w X.K X.mg X.base CX k f fd ps sp)(hr:Room (k+1) X.A)(T:Zp X.K fd ps ds)(hd:Vals dvs ds)(U:Qay CX X E)(I:Inv X l J H s)(r:Vals vs us)(h:∀x B,H x=none->H B=none->B≠x->sp (.ref x::(vs++dvs)) (upd (upd H B (.own x)) x (.ins C B [])) (λv Y=>v = .non/\Q (.ref x) Y) E) :
  aE (model X.prog X.w) X.A (call (.ref C) us) (EP X l J Q) X.xe s:=by
 have L:=h (s.heap.objs.size+1) s.heap.objs.size (I.hok.fresh (dy _)) (I.hok.fresh (aB _)) (aL (cU _));have D:=Inv.made (C:=C) I;have O:Vals (V.ref (s.heap.objs.size+1)::(vs++dvs)) (cR (s.heap.objs.size+1)::(us++ds)) := .cons rfl (r.append hd);have hl :=by
  have e:=O.length;rw[F.len _ _ _ _ L]at e;exact e.symm
 refine kE (make_map I.kIn M.makes M.init (bg.mp M.fn) (fh (F.run _ X.stack _ _ ⟨cR (s.heap.objs.size+1)::us,[]⟩ (cR (s.heap.objs.size+1)::(us++ds)) _ _ E (hr.make C us [])
  (D.env0.make C us []) (T _ (cR (s.heap.objs.size+1)::us) D.kIn hl) O L) λr s' j=>?_))
 cases r with
 |error e=>exact U l J _ _ e s' D j
 |ok fl =>
  cases fl with
  |ret u =>
   obtain⟨v,H',I3,rv,ev,q3⟩:=D.after j;subst ev;exact⟨rv,⟨V.ref (s.heap.objs.size+1),H',I3,rfl,q3⟩⟩
  |next=>exact cP j
  |brk=>exact cP j
  |cont=>exact cP j
def pe_make(M:Mk X.K C f)(F:FnOk X.prog X.w X.K X.mg X.base CX k f fd ps sp)(hr:Room (k+1) X.A)(O:Gl X x)(hm:X.mg x=some (.ref C))(T:Zp X.K fd ps ds)(hd:Vals dvs ds)(U:Qay CX X E)(Y:PA X (e::B) t)(D:(x=="__debug__")=false:=by decide)(he:ah (e::B) X.env=(false,eval e X.env)::ah B X.env:=by rfl)(J:(bx l (ah B X.env)).any (·.1)=false:=by rfl) :
  PE X (.Call (.Name x p) (e::B) [] l) (tMake C sp dvs E t):=by
 intro j s σ H Q I h;refine gO (Qcm I O hm ?_ D);refine eg I.ok.mod.kin M.kp (thn (Y l j s σ H _ I h) λus s1 ⟨vs,H1,L,r,q⟩=>⟨L.kIn,?_⟩) he J;exact run_make M F hr T hd U L r q
end
section
structure KBinds (K:aa) (fd:d9) (ps ks:List Str) (g:List Value->List Value->List Value) (gV:List V->List V->List V):Prop where
 to:∀(s:aC)(us ws:List Value),K.In s.heap->(g us ws).length=ps.length->mn s fd ⟨us,ks.zip ws⟩ (ps.zip (g us ws))
 rel:∀{vs:List V}{us:List Value}{zs:List V}{ws:List Value},Vals vs us->Vals zs ws->Vals (gV vs zs) (g us ws)
end
structure FnScope (N P:List Str) (sc:fN):Prop where
 kind:sc.kind = .function
 co:sc.isCoroutine=false
 gen:sc.isGenerator=false
 nd:N.Nodup
 pre:N.take P.length=P
 par:∀x∈P,sc.names.lookup x=some .local\/sc.names.lookup x=some .cell
 nofree:∀y∈sc.names,y.2≠.free
theorem QfP{kindOf:Str->Option i8}:∀{binds:List (Str×Value)}{m:Str->Option Value},(∀v,(x,v)∉binds)->mO kindOf binds m x=m x
 |[],_,_=>rfl
 | (n,v)::r,m,h=>by
  unfold mO;rw[QfP λw hw=>h w (ax _ hw)];split
  .have:x≠n:=by rintro rfl;exact h v bB
   simp[this]
  .rfl
theorem QfR{kindOf:Str->Option i8}:∀{binds:List (Str×Value)}{m:Str->Option Value},(∀v,(x,v)∉binds)->mP kindOf binds m x=m x
 |[],_,_=>rfl
 | (n,v)::r,m,h=>by
  unfold mP;rw[QfR λw hw=>h w (ax _ hw)];split;all_goals grind
theorem QfQ{kindOf:Str->Option i8}:∀{P:List Str}{vs:List Value}{i:Nat}{m:Str->Option Value},P.Nodup->P[i]?=some x->vs[i]?=some v->kindOf x=some .local ->
  mO kindOf (P.zip vs) m x=some v
 |[],_,_,_,_,h,_,_=>by simp at h
 |_::_,[],_,_,_,_,h,_=>by simp at h
 |p::P,w::vs,0,m,nd,h1,h2,f=>by
  simp at h1 h2;subst h1;subst h2;show mO kindOf ((p,w)::P.zip vs) m p=_;unfold mO;rw[QfP λv j=>(bO.mp nd).1 (jw j).1,au f];simp
 |p::P,w::vs,i+1,m,nd,h1,h2,f=>by
  unfold mO;exact QfQ (bO.mp nd).2 (by simpa using h1) (by simpa using h2) f
theorem QfS{kindOf:Str->Option i8}:∀{P:List Str}{vs:List Value}{i:Nat}{m:Str->Option Value},P.Nodup->P[i]?=some x->vs[i]?=some v->kindOf x≠some .local ->
  mP kindOf (P.zip vs) m x=some v
 |[],_,_,_,_,h,_,_=>by simp at h
 |_::_,[],_,_,_,_,h,_=>by simp at h
 |p::P,w::vs,0,m,nd,h1,h2,f=>by
  simp at h1 h2;subst h1;subst h2;show mP kindOf ((p,w)::P.zip vs) m p=_;unfold mP;rw[QfR λv j=>(bO.mp nd).1 (jw j).1,aK f];simp
 |p::P,w::vs,i+1,m,nd,h1,h2,f=>by
  unfold mP;exact QfS (bO.mp nd).2 (by simpa using h1) (by simpa using h2) f
def YN(N:List Str)(vs:List V):St:=vs.map some++bS (N.length-vs.length) none
def cxOf(CX:CXT)(P:aY)(w:cf)(K:aa)(mg:Str->Option Value)(base:Heap)(N:List Str)(qual:Str)(scope:fN)(f:Addr)(l:Value)(A:dm)(outer:List Env)(s:aC)(H:Hp)(E:XK):Cx where
 prog:=P
 w:=w
 K:=K
 mg:=mg
 base:=base
 A:=A.deeper (cM qual scope s.heap.objs.size f l)
 N:=N
 s₀:=s
 H₀:=H
 env:=cM qual scope s.heap.objs.size f l
 outer:=outer
 stack:=cM qual scope s.heap.objs.size f l::outer
 ex:=[]
 calm:=true
 fn:=λ_=>true
 pn:=[]
 xe:=λe s'=>aE (model P w) (A.deeper (cM qual scope s.heap.objs.size f l)) (leaving (cM qual scope s.heap.objs.size f l) e) (λ_ j=>CX outer H s E e j) (λB j=>CX outer H s E B j) s'
def QiO{f:fN}(h:f.names.lookup x=some .cell):∃c,(c6 n f.names []).lookup x=some c:=by
 have q:=fo f.names n [] (.inl h);exact cK.mp q
def Qms{CX:CXT}{P:aY}{w:cf}{K:aa}{mg:Str->Option Value}{base:Heap}{N ps:List Str}{qual:Str}{scope:fN}{f:Addr}{J:Value}{A:dm}{outer:List Env}{s s1:aC}{H:Hp}{E:XK}{us:List Value}{vs:List V}(S:FnScope N ps scope)(hd:A.handled=none)(l:Env0 P w K mg base A outer s H)(hl:vs.length=ps.length)(r:Vals vs us)(x:InCallC s s.heap.objs.size (mO (cM qual scope s.heap.objs.size f J).kindOf (ps.zip us) λ_=>none) (c6 (s.heap.objs.size+1) scope.names []) (mP (cM qual scope s.heap.objs.size f J).kindOf (ps.zip us) λ_=>none) s1) :
  Inv (cxOf CX P w K mg base N qual scope f J A outer s H E) [] (YN N vs) H s1:=by
 have T:ps.length<=N.length:=by have:=congrArg ee S.pre;rw[dO]at this;lia
 obtain⟨h1,tk,rfl,M⟩:=x.done;have j:∀b:Addr,b∉(cxOf CX P w K mg base N qual scope f J A outer s H E).ex:=λb z=>absurd (show b∈([]:List Addr) from z) (by simp);refine⟨⟨l.mod,S.kind,rfl,rfl,aB _,λy z c h1 h2=>?_,λy B=>?_,λy c _ h=>?_,λ_=>hd,dm.frames_deeper l.frames,.inr ⟨rfl,rfl⟩,λb z=>absurd z (j b),l.bs,l.bsz,λb _ _=>j b,λb z=>absurd z (j b),l.funs,l.frf⟩,
  rfl,l.bare,Un.kept M,⟨_,x.toInCall.ns,λi y v h1 h2 h3=>?_⟩,λy c h=>⟨_,x.cell y c h⟩,l.hok.fresh (aB _),λy c h=>?_,λp D=>absurd (show p∈([]:List (Addr×Obj)) from D) (by simp),l.hok.kept M,?_⟩
 .exact name_of_addr x.apart (cF h1) (cF h2)
 .rcases B with B | B
  .exact QiO B
  .exact absurd rfl (S.nofree _ (cF B))
 .exact b8 (x.above y c (cF h))
 .have L:i<vs.length:=by
   unfold YN at h2;by_cases L:i<vs.length
   .exact L
   .rw[c8 (by simpa using L)]at h2;rw[dE]at h2;split at h2<;>cases h2
  have U:vs[i]?=some v:=by
   unfold YN at h2;rw[b6 (by simpa using L),aT]at h2;cases e:vs[i]? with
   |none=>rw[e]at h2;cases h2
   |some a=>rw[e]at h2;cases h2;rfl
  obtain⟨u,O,Y⟩:=r.get U;have D:ps[i]?=some y:=by
   rw[<-S.pre,List.getElem?_take_of_lt (by lia)];exact h1
  have I:ps.Nodup:=by rw[<-S.pre];exact S.nd.sublist (lQ _ _)
  refine⟨u,Y,?_⟩;rcases S.par y (bT D) with k | k
  .exact .inl ⟨k,QfQ I D O k⟩
  .obtain⟨c,e⟩:=QiO k;refine .inr ⟨.inl k,c,e,?_⟩;have q:=x.cell y c e;rw[QfS I D O (by show scope.names.lookup y≠_;rw[k];decide)]at q;exact q
 .exact l.hok.fresh (b8 (x.above y c (cF h)))
 .delta YN;show _=N.length;rw[aO,ai,dg];lia
def Qnx{K:aa}{dV kV doc pm l ct oc:Value}(lk:K.lookup f=some ⟨oc,od,.func (cD name qual params body scope dV kV doc pm an l ct),av⟩)(U:eM K l qual=true)(S:FnScope N ps scope)(len:∀vs H Q E,sp vs H Q E->vs.length=ps.length)(D:∀A outer s H vs Q E,Room k (A.deeper (cM qual scope s.heap.objs.size f l))->sp vs H Q E ->
   ∃t,PSs (cxOf CX P w K mg base N qual scope f l A outer s H E) body t/\t { nx:=λ_ B=>Q .non B,rt:=Q } (YN N vs) H) :
  FnOk P w K mg base CX (k+1) f (cD name qual params body scope dV kV doc pm an l ct) ps sp:=by
 refine⟨len,λA outer s H args us vs Q E hr O hb r T=>?_⟩;have hl:=len _ _ _ _ T;have KX :=O.mod.kin.keeps λb o e=>(O.bs b o e).1;have Y :=O.mod.nolimit.keeps λb o e=>(O.bs b o e).1;have L:∀y∈ps.zip us,scope.names.lookup y.1=some .local\/(scope.names.lookup y.1=some .cell/\((c6 (s.heap.objs.size+1) scope.names []).lookup y.1).isSome=true):=λ⟨n,v⟩ hy=>by
  rcases S.par n (jw hy).1 with q | q
  .exact .inl q
  .exact .inr ⟨q,fo _ _ _ (.inl q)⟩
 refine codeAny_call_function hr.depth (KX _ _ lk) rfl S.co S.gen rfl (PySem.W.codeRec_of KX U) (hb _ _ _ _ ?_);refine wpAny_newFunctionEnv_cells S.kind L λenv he s1 x=>?_;subst he;refine⟨Y.keeps x.toInCall.keep,codeAny_func ?_⟩;obtain⟨t,ht,hq⟩:=D A outer s H vs Q E (hr.deeper _) T;have I:Inv (cxOf CX P w K mg base N qual scope f l A outer s H E) [] (YN N vs) H s1:=Qms S hr.hd O hl r x;refine da (ht [] s1 (YN N vs) H _ I hq) (λfl s' M=>?_) λe s' M=>M;have fin:∀{j:St}{B:Hp}{v:V}{u:Value},Inv (cxOf CX P w K mg base N qual scope f l A outer s H E) [] j B s'->RelV v u->Q v B->CE outer P w H s Q u s' :=
  λ{j B v u} J rv q=>⟨v,B,J.os,J.bare,J.base,J.hok,rv,q⟩
 cases fl with
 |ret u =>
  obtain⟨v,j,B,J,rv,q⟩:=M;exact fin J rv q
 |next =>
  obtain⟨j,B,J,q⟩:=M;exact fin (v:=V.non) J rfl q
 |brk =>
  obtain⟨_,_,_,q⟩:=M;exact cP q
 |cont =>
  obtain⟨_,_,_,q⟩:=M;exact cP q
section
def tCB(r:List V->Hp->VK->Prop)(t:TA):TE:=λf H Q=>t f H λvs j=>r vs j Q
def YF{X:Cx}{id:String}(hc:YQ X (.builtin id) r)(L:Gl X x)(hm:X.mg x=none)(M:cI x=some (.builtin id))(O:PA X (e::B) t)(T:x≠"__name__":=by decide)(D:(x=="__debug__")=false:=by decide)(he:ah (e::B) X.env=(false,eval e X.env)::ah B X.env:=by rfl)(J:(bx l (ah B X.env)).any (·.1)=false:=by rfl):PE X (.Call (.Name x p) (e::B) [] l) (tCB r t):=by
 intro f s j H Q I h;refine gO (Qbt I L hm M ?_ T D);exact PyProof.Rows.callWith_builtin1 (thn (O l f s j H _ I h) λus s1 ⟨vs,E,U,Y,q1⟩=>hc f s1 j E vs us Q U Y q1) he J
def ZS(hc:YQ X (.type T) r)(L:Gl X x)(hm:X.mg x=none)(M:cI x=some (.type T))(O:PA X (e::B) t)(U:x≠"__name__":=by decide)(D:(x=="__debug__")=false:=by decide)(he:ah (e::B) X.env=(false,eval e X.env)::ah B X.env:=by rfl)(J:(bx l (ah B X.env)).any (·.1)=false:=by rfl):PE X (.Call (.Name x p) (e::B) [] l) (tCB r t):=by
 intro f s j H Q I h;refine gO (Qbt I L hm M ?_ U D);exact cX (thn (O l f s j H _ I h) λus s1 ⟨vs,E,Y,r1,q1⟩=>hc f s1 j E vs us Q Y r1 q1) he J
end
end L2
namespace HT
open PySem PyProof.Rows
section
def cat_tup(O:IsTup s.heap t vs.toArray)(T:IsTup s.heap b ws.toArray)(I:vs≠[])(h1:ws=[]->Q (.ref t) s)(h2:ws≠[]->Q (.ref s.heap.objs.size) { s with heap:=s.heap.push { cls := .type "tuple",data := .seq (vs++ws).toArray } })(B:vs.length+ws.length<=aI):aE (model prog w) A (bV .Add (.ref t) (.ref b)) Q E s:=by
 obtain⟨⟨cls,dd,data,J⟩,ho,hc,n,hd⟩:=id O;obtain⟨⟨L,j,data2,l⟩,f,D,M,H⟩:=id T;subst hc hd D H;have e:vs.toArray++ws.toArray=(vs++ws).toArray:=by simp
 by_cases hw:ws=[]
 .exact l9 ⟨_,ho,rfl⟩ ⟨_,f,rfl⟩ noFill_tuple_add seq_tuple_add ki j6 (jY _ _)
   (tuple_addW1 t b vs.toArray ws.toArray n M dd j J l (by simpa using I) (by simp[hw])) ⟨ho,f,h1 hw⟩
 .refine l9 ⟨_,ho,rfl⟩ ⟨_,f,rfl⟩ noFill_tuple_add seq_tuple_add ki j6 (jY _ _)
   (tuple_addW2 t b vs.toArray ws.toArray n M dd j J l (by simpa using I) (by simpa using hw) (by exact B)) ⟨ho,f,?_⟩
  rw[e];exact h2 hw
noncomputable def sIx(n d:Nat):Option Int->Nat
 |none=>d
 |some v=>if v<0 then (v+n).toNat else min v.toNat n
def sIx_none n d:sIx n d none=d:=rfl
def sIx_nat(n d k:Nat):sIx n d (some k)=min k n:=by
 show(if k<0 then (k+(n:Int)).toNat else min (k:Int).toNat n)=min k n;rw[aK (by lia),c9]
end
end HT
namespace L2
open PySem PySem.Spec PyProof.Rows
abbrev TO:=St->Hp->(Option Int->Hp->Prop)->Prop
def PO(X:Cx)(e:Option Expr)(t:TO):Prop :=
 ∀f s (j:St) H Q,Inv X f j H s->t j H Q ->
  aE (model X.prog X.w) X.A (evalPart e X.env) (λu s'=>∃o l,Inv X f j l s'/\IsPart u o/\Q o l) X.xe s
def tNoPart:TO:=λ_ H Q=>Q none H
def tPart(t:TE):TO:=λf H Q=>t f H λx j=>∃i,x = .int i/\Q (some i) j
def Qjw:∀{us:List Value},Vals (ns.map V.int) us->mS us ns:=by
 induction ns with
 |nil=>intro us r;cases r;exact .nil
 |cons n ns f =>
  intro us r;cases r with
  |cons j l =>
   obtain⟨t,e⟩:=j;subst e;exact .cons n t (f l)
section
def po_none:PO X none tNoPart:=by
 intro f s j H Q I h;exact ag ⟨none,H,I,.none,h⟩
def po_some(h:PE X e te):PO X (some e) (tPart te):=by
 intro f s j H Q I hw;refine thn (h f s j H _ I hw) λu s1 l=>?_;obtain⟨x,B,D,E,J⟩:=l;obtain⟨i,rfl,q⟩:=J;obtain⟨t,rfl⟩:=E;exact⟨some i,B,D,.int i t,q⟩
def SlR(X:Cx)(r:V->Option Int->Option Int->Hp->VK->Prop):Prop :=
 ∀f s (j:St) H x v l B lo D E Q,Inv X f j H s->RelV x v->s.heap.IsSliceOf E l B .none->IsPart l lo->IsPart B D->r x lo D H Q ->
  ∃T id,kF (.type T) "__getitem__"=pure (some (.builtin id))/\s.TypeIs v T/\aE (model X.prog X.w) X.A (getItem v (.ref E)) (EP X f j Q) X.xe s
def tSl(r:V->Option Int->Option Int->Hp->VK->Prop)(te:TE)(tl B:TO):TE:=λf H Q=>te f H λx j=>tl f j λl D=>B f D λu E=>r x l u E Q
def Qii{X:Cx}{lo:Option Expr}(hr:SlR X r)(he:PE X e te)(hl:PO X lo tl)(L:PO X M O):PE X (.Subscript e (.Slice lo M none p2) U) (tSl r te tl O):=by
 intro f s j H Q I h;refine Subscript_ (thn (he f s j H _ I h) λv s1 B=>?_);obtain⟨x,Y,I1,r1,q1⟩:=B;refine wpAny_Slice (thn (hl f s1 j Y _ I1 q1) λD s2 ⟨l,H2,I2,pl,q2⟩=>thn (L f s2 j H2 _ I2 q2) λE s3 B=>?_);obtain⟨u,J,I3,pu,q3⟩:=B;refine ag ?_;have I4:Inv X f j J { s3 with heap:=s3.heap.push { cls := .type "slice",data := .fields #[D,E,.none] } }:=I3.kept λb ob q=>af _ q;obtain⟨T,id,hT,ht,hg⟩:=hr f { s3 with heap:=s3.heap.push { cls := .type "slice",data := .fields #[D,E,.none] } } j J x v D E l u s3.heap.objs.size Q I4 r1 (Heap.IsSliceOf.new ..) pl pu q3;exact tail_any ht hT hg (by with_unfolding_all rfl)
def cutV(xs:List V)(lo f:Option Int):List V:=(xs.drop (HT.sIx xs.length 0 lo)).take (HT.sIx xs.length xs.length f-HT.sIx xs.length 0 lo)
def QhL xs lo f:(cutV xs lo f).length<=xs.length:=by
 delta cutV;rw[dO,dr];lia
def rCatT(K:aa):R2:=λx y H Q=>∃a b xs ys,x = .ref a/\y = .ref b/\SqT K H a xs/\SqT K H b ys/\xs≠[]/\xs.length+ys.length<=aI /\
 (ys=[]->Q (.ref a) H)/\(ys≠[]->∀p,H p=none->Q (.ref p) (upd H p (.tup (xs++ys))))
def Vals.nil_iff(r:Vals xs us):us=[]↔xs=[]:=by
 cases r with
 |_=>simp
def op_catT:OpR X (bV .Add) (rCatT X.K):=by
 intro l s Y H x y v u Q I D E h;obtain⟨a,b,xs,ys,rfl,rfl,J,L,M,hz,O,T⟩:=h;cases D;cases E;obtain⟨U,j,p1,_⟩:=I.tuple J;obtain⟨B,f,p2,_⟩:=I.tuple L;refine HT.cat_tup p1 p2 (λz=>M (j.nil_iff.mp z)) (λz=>⟨.ref a,H,I,rfl,O (f.nil_iff.mp z)⟩) (λz=>?_) (by rw[<-j.length,<-f.length];exact hz);refine⟨.ref s.heap.objs.size,_,I.laid (λb ob q=>af _ q) (aB _) ?_,rfl,T (λw=>z (f.nil_iff.mpr w)) _ (I.hok.fresh (aB _))⟩;exact⟨by rw[aO];exact hz,_,j.append f,Xb.new _ _ _⟩
end
noncomputable def ixN(n:Nat)(i:Int):Option Nat:=if 0<=i then (if i<n then some i.toNat else none) else if -n<=i then some (i+n).toNat else none
def atI{α:Type}(xs:List α)(i:Int):Option α:=(ixN xs.length i).bind λj=>xs[j]?
def ixN_seq(h:ixN n i=some j):seqIndex? i n=some j/\j<n /\ -n<=i/\i<n:=by
 delta ixN at h;by_cases h0:0<=i
 .rw[au h0]at h;by_cases h1:i<n
  .rw[au h1]at h;have e :=br h;exact⟨by rw[seqIndex_of h0 h1,e],by lia,by lia,h1⟩
  .rw[aK h1]at h;cases h
 .rw[aK h0]at h;by_cases h1 : -n<=i
  .rw[au h1]at h;have e :=br h;exact⟨by rw[seqIndex_neg (by lia) h1,e],by lia,h1,by lia⟩
  .rw[aK h1]at h;cases h
def QgO(h:atI xs i=some v):∃j,seqIndex? i xs.length=some j/\xs[j]?=some v/\j<xs.length /\ -xs.length<=i/\i<xs.length:=by
 delta atI at h;cases e:ixN xs.length i with
 |none=>rw[e]at h;cases h
 |some j =>
  rw[e]at h;obtain⟨h1,h2,f,l⟩:=ixN_seq e;exact⟨j,h1,h,h2,f,l⟩
def Qlz{j:Nat}(h:xs[j]?=some v):atI xs j=some v:=by
 have hj :=(aw.mp h).1;have e:ixN xs.length j=some j:=by
  delta ixN;rw[au (by lia),au (by lia)];simp
 delta atI;rw[e];exact h
def atI_last xs (v:α):atI (xs++[v]) (-1)=some v:=by
 have hl:(xs++[v]).length=xs.length+1:=by simp
 have e:ixN (xs++[v]).length (-1)=some xs.length:=by
  delta ixN;rw[hl,aK (by decide),au (by lia)];congr 1;lia
 delta atI;rw[e];simp
def QlE(b:Expr):Prop:=∀o i,subscripted b false o i=operate [o,i] (getItem o i)
def IxR(X:Cx)(r:R2):Prop :=
 ∀l slice f s (j:St) H x y v u Q,Inv X f j H s->RelV x v->RelV y u->r x y H Q ->
  subscripted slice false v u=operate [v,u] (getItem v u)->aE (model X.prog X.w) X.A (subscriptTail l slice v u) (EP X f j Q) X.xe s
def MtR(X:Cx)(id:String)(r:V->List V->Hp->VK->Prop):Prop :=
 ∀f s (j:St) H x xs v us Q,Inv X f j H s->RelV x v->Vals xs us->r x xs H Q ->
  aE (model X.prog X.w) X.A (call (.builtin id) (v::us)) (EP X f j Q) X.xe s
section
def pe_ix(hr:IxR X r)(l:PE X a B)(D:PE X b tb)(J:QlE b):PE X (.Subscript a b L) (tOp r B tb):=by
 intro f s j H Q I h;exact Subscript_ (binT l D I h λv u s2 x y E M O T q=>hr a b f s2 j E x y v u Q M O T q (J _ _))
def rIxL(K:aa):R2:=λx y H Q=>∃p xs i v,x = .ref p/\y = .int i/\SqL K H p xs/\atI xs i=some v/\Q v H
def rIxT(K:aa):R2:=λx y H Q=>∃p xs i v,x = .ref p/\y = .int i/\SqT K H p xs/\atI xs i=some v/\Q v H
def rIxS:R2:=λx y H Q=>∃z i c,x = .str z/\y = .int i/\z.length<=aI/\atI z.cps.toList i=some c/\Q (.str ⟨#[c]⟩) H
def ix_list:IxR X (rIxL X.K):=by
 intro l slice f s M H x y v u Q I O T h J;obtain⟨p,xs,i,z,rfl,rfl,U,he,q⟩:=h;cases O;obtain⟨t,rfl⟩:=T;obtain⟨B,r,D,hz⟩:=I.list U;obtain⟨j,h1,h2,h3,Y,h5⟩:=QgO he;obtain⟨w,L,E⟩:=r.get h2;have hl:=r.length;have hn:=Qkp;have fin:EP X f M Q w s:=⟨z,H,I,E,q⟩
 by_cases h0:0<=i
 .have hj :=by
   rw[seqIndex_of h0 h5]at h1;exact br h1
  exact item_listR D.isList h0 (by lia) (by rw[hj];simpa using L) fin J
 .have hj:(i+B.toArray.size).toNat=j:=by
   rw[seqIndex_neg (by lia) Y]at h1;rw[aQ,<-hl];exact br h1
  exact subscriptTail_builtinR D.isList.typeIs slot_list_getitem.lookup
   (wpAny_getItem_list_neg D.isList (by lia) (by rw[aQ]<;>lia) (by lia) (by rw[hj];simpa using L) ⟨rfl,fin⟩) J
def ix_tup:IxR X (rIxT X.K):=by
 intro l slice f s E H x y v u Q I J L h M;obtain⟨p,xs,i,z,rfl,rfl,O,he,q⟩:=h;cases J;obtain⟨t,rfl⟩:=L;obtain⟨T,r,D,hz⟩:=I.tuple O;obtain⟨j,h1,h2,Y,h4,h5⟩:=QgO he;obtain⟨w,U,B⟩:=r.get h2;have hl:=r.length;have hn:=Qkp;have fin:EP X f E Q w s:=⟨z,H,I,B,q⟩
 exact subscriptTail_builtinR D.typeIs slot_tuple_getitem.lookup
  (getItem_tuple D (by lia) (by lia) (by rw[aQ,<-hl];exact h1) (by simpa using U) ⟨rfl,fin⟩) M
def ix_str:IxR X rIxS:=by
 intro l slice f s J H x y v u Q I B D h E;obtain⟨z,i,c,rfl,rfl,hz,he,q⟩:=h;obtain⟨t,rfl⟩:=B;obtain⟨t',rfl⟩:=D;obtain⟨j,h1,h2,L,M,O⟩:=QgO he;have hl:z.cps.toList.length=z.length:=by simp[cw]
 have T:=Qkp;exact tail_any (iB s z t) slot_str_getitem.lookup (getItem_str (by
  grind) (by grind) ⟨.str ⟨#[c]⟩,H,I.tok _,⟨_,rfl⟩,q⟩) E
def Inv.lst(I:Inv X l B H s)(h:H p=some (.lst xs)) :
  ∃f n,Vals xs f/\s.heap.get? p=some { cls := .type "list",data := .seq f.toArray n }/\xs.length<=aI:=by
 obtain⟨z,f,n,r,e⟩:=I.hok p _ h;exact⟨f,n,r,e,z⟩
def Qgc lo f n:(gq lo f none n).1=((HT.sIx n 0 lo))/\(gq lo f none n).2.1=((HT.sIx n n f))/\(gq lo f none n).2.2=1:=by
 refine⟨?_,?_,rfl⟩
 .cases lo with
  |none=>simp[gq,HT.sIx]
  |some i =>
   simp only[gq,HT.sIx];grind
 .cases f with
  |none=>simp[gq,HT.sIx]
  |some i =>
   simp only[gq,HT.sIx];grind
def QeI(f:List Value) lo l:slicePick f.toArray lo l none=((f.drop (HT.sIx f.length 0 lo)).take (HT.sIx f.length f.length l-HT.sIx f.length 0 lo)).toArray:=by
 obtain⟨h1,h2,j⟩:=Qgc lo l f.toArray.size;delta slicePick;rw[h1,h2,j];simp only[sliceRange_one,pick_run]<;>rfl
def rSlL(K:aa):V->Option Int->Option Int->Hp->VK->Prop:=λx lo f H Q=>∃a xs,x = .ref a/\SqL K H a xs/\∀p,H p=none->Q (.ref p) (upd H p (.lst (cutV xs lo f)))
def sl_list:SlR X (rSlL X.K):=by
 intro f s T H x v U Y lo j sl Q I D E J L h;obtain⟨a,xs,rfl,M,q⟩:=h;cases D;obtain⟨O,r,B,hz⟩:=I.list M;have l:=r.length;refine⟨"list",_,slot_list_getitem.lookup,B.isList.typeIs,?_⟩;refine wpAny_getItem_list_slice B.isList E J L .none (by simp) ?_ (by grind);rw[QeI,<-l];refine⟨.ref s.heap.objs.size,_,I.laid (λb ob q=>af _ q) (aB _) ?_,rfl,q _ (I.hok.fresh (aB _))⟩;exact⟨aS (QhL xs lo j) hz,_,0,(r.drop (HT.sIx xs.length 0 lo)).take (HT.sIx xs.length xs.length j-HT.sIx xs.length 0 lo),ay _ rfl⟩
def Qgo:YQ X (.type "list") (λxs H Q=>∃p ys,xs=[.ref p]/\(SqL X.K H p ys\/SqT X.K H p ys)/\∀l,H l=none->Q (.ref l) (upd H l (.lst ys))):=by
 intro E s T H xs us Q I r h;obtain⟨p,ys,rfl,J,q⟩:=h;obtain⟨u,rfl,U⟩:=Yq r;cases U;have fin:∀f,Vals ys f->ys.length<=aI->∀j B,(∀b O,s.heap.get? b=some O->j.get? b=some O) ->
   j.get? s.heap.objs.size=some { cls := .type "list",dict:=none,data := .seq f.toArray B,slots := #[] }->EP X E T Q (.ref s.heap.objs.size) { s with heap:=j }:=λf D hz j B kp e =>
  ⟨.ref s.heap.objs.size,_,I.laid kp (aB _) (show ObjOk X.prog X.w _ j _ (.lst ys) from⟨hz,f,B,D,e⟩),rfl,q _ (I.hok.fresh (aB _))⟩
 rcases J with J | J
 .obtain⟨f,D,M,hz⟩:=I.list J;have L:=D.length;obtain⟨o,ho,hc,n,hd⟩:=M.isList;exact call_list_seq p (.inl rfl) ho hc hd (λj B kp e=>fin f D hz j B kp e) (by simp<;>lia)
 .obtain⟨f,D,M,hz⟩:=I.tuple J;have L:=D.length;obtain⟨o,ho,hc,n,hd⟩:=M;exact call_list_seq p (.inr rfl) ho hc hd (λj B kp e=>fin f D hz j B kp e) (by simp<;>lia)
def QeL:YQ X (.type "tuple") (λxs H Q=>∃p ys,xs=[.ref p]/\((SqL X.K H p ys/\∀l,H l=none->Q (.ref l) (upd H l (.tup ys)))\/(SqT X.K H p ys/\Q (.ref p) H))):=by
 intro E s U H xs us Q I r h;obtain⟨p,ys,rfl,h⟩:=h;obtain⟨u,rfl,M⟩:=Yq r;cases M;rcases h with⟨j,q⟩|⟨j,q⟩
 .obtain⟨f,B,D,hz⟩:=I.list j;have J:=B.length;refine call_tuple_list D.isList (λO kp=>?_) (by simp<;>omega);have L :=I.kept (t':=s.toks) kp;have T  :=
   L.laid (t':=s.toks) (λb o e=>af _ e) (aB _) (show ObjOk X.prog X.w _ _ _ (.tup ys) from⟨hz,f,B,Xb.new _ _ _⟩)
  exact⟨.ref O.objs.size,_,T,rfl,q _ (L.hok.fresh (aB _))⟩
 .obtain⟨f,B,D,hz⟩:=I.tuple j;exact call_tuple_same D ⟨.ref p,H,I,rfl,q⟩
def tyV(K:aa)(T:String)(x:V)(H:Hp):Prop:=match x with
 |.str _=>T = "str"
 |.int _=>T = "int"
 | .ref p=>(T = "list"/\∃xs,SqL K H p xs)\/(T = "tuple"/\∃o,K.lookup p=some o/\o.cls = .type "tuple"/\o.dict=none) \/
   (T = "dict"/\((∃f,H p=some (.dK f))\/∃f,H p=some (.dT f)))\/(T = "set"/\∃S n,H p=some (.set S n))
 |_=>False
def tyV_is(I:Inv X l J H s)(r:RelV x v)(ty:tyV X.K T x H) :
  s.TypeIs v T/\∀a,v = .ref a->∃ob,s.heap.get? a=some ob/\ob.dict=none:=by
 cases x with
 |str z =>
  obtain⟨t,rfl⟩:=r;cases (ty);exact⟨iB s z t,λ_ e=>nomatch e⟩
 |int i =>
  obtain⟨t,rfl⟩:=r;cases (ty);exact⟨typeIs_int s i t,λ_ e=>nomatch e⟩
 |ref p =>
  cases r;rcases ty with⟨rfl,xs,D⟩|⟨rfl,o,f,hc,hd⟩|⟨rfl,f⟩|⟨rfl,S,n,f⟩
  .obtain⟨E,_,B,_⟩:=I.list D;refine⟨B.isList.typeIs,λa e=>?_⟩;cases e;obtain⟨o,n,e,c,hd,_⟩:=B;exact⟨o,e,hd⟩
  .refine⟨⟨o,I.kIn p o f,hc⟩,λa e=>?_⟩;cases e;exact⟨o,I.kIn _ o f,hd⟩
  .have z:∃o,s.heap.get? p=some o/\o.ExactDict:=by
    rcases f with⟨j,f⟩|⟨j,f⟩
    .obtain⟨_,_,_,_,o,_,_,e,ex,_⟩:=I.hok p _ f;exact⟨o,e,ex⟩
    .obtain⟨_,_,_,_,o,_,_,e,ex,_⟩:=I.hok p _ f;exact⟨o,e,ex⟩
   obtain⟨o,e,ex⟩:=z;refine⟨⟨o,e,ex.1⟩,λa e2=>?_⟩;cases e2;exact⟨o,e,ex.2.1⟩
  .obtain⟨o,_,_,_,e,ex,_⟩:=I.hok p _ f;refine⟨⟨o,e,ex.1⟩,λa e2=>?_⟩;cases e2;exact⟨o,e,ex.2.1⟩
 |_=>exact cP ty
def tBM0(K:aa)(T:String)(r:V->List V->Hp->VK->Prop)(to:TE):TE:=λj H Q=>to j H λx f=>tyV K T x f/\r x [] f Q
def tBM(K:aa)(T:String)(r:V->List V->Hp->VK->Prop)(to:TE)(t:TA):TE:=λf H Q=>to f H λx j=>tyV K T x j/\t f j λxs l=>r x xs l Q
def pe_bm0{X:Cx}{f:Pos}{l:Pos}{id:String}(O:PlainAttrs T)(slot:mQ T name id)(J:typeOf (.builtin id)=pure (.type "method_descriptor"))(hm:MtR X id r)(ho:PE X o to)(B:bW o name X.env (eval o X.env)=eval o X.env:=by rfl)(D:(f.endLine==l.line)=true:=by rfl):PE X (.Call (.Attribute o name f) [] [] l) (tBM0 X.K T r to):=by
 intro j s E H Q I h;refine wpAny_Call_method0_late B D (thn (ho j s E H _ I h) λv s1 U=>?_);obtain⟨x,Y,L,M,ty,q1⟩:=U;obtain⟨h1,h2⟩:=tyV_is L M ty;exact⟨T,id,O,slot,J,h1,h2,iI rfl (PySem.evalArgs_none (hm j s1 E Y x [] v [] Q L M .nil q1))⟩
def QfX{X:Cx}{B:Pos}{f:Pos}{id:String}(pa:PlainAttrs T)(slot:mQ T name id)(O:typeOf (.builtin id)=pure (.type "method_descriptor"))(hm:MtR X id r)(ho:PE X o to)(ha:PA X (e::D) t)(J:bW o name X.env (eval o X.env)=eval o X.env:=by rfl)(M:((bx f (ah (e::D) X.env)).all (λx => !x.1)&&(dI f (ce [] X.env)).all (λx=>x.1.isSome)
   && decide ((e::D).length+([]:List d4).length+(if ([]:List d4).isEmpty then 0 else 1)<30))=true:=by rfl)(L:(B.endLine==f.line)=true:=by rfl)(hs:ah (e::D) X.env=(false,eval e X.env)::ah D X.env:=by rfl)(l:(bx f (ah D X.env)).any (·.1)=false:=by rfl) :
  PE X (.Call (.Attribute o name B) (e::D) [] f) (tBM X.K T r to t):=by
 intro j s E H Q I h;refine l7 J M L rfl (thn (ho j s E H _ I h) λv s1 zz=>?_);obtain⟨x,H1,U,Y,ty,q1⟩:=zz;obtain⟨h1,h2⟩:=tyV_is U Y ty;refine⟨T,id,pa,slot,O,h1,h2,?_⟩;have hA:=ha f j s1 E H1 _ U q1;rw[hs]at hA |-;refine iI (by show(false||(bx f (ah D X.env)).any (·.1))=false;rw[l]<;>rfl) (jb ?_);exact thn hA λus s2 ⟨vs,H2,I2,r2,q2⟩=>hm j s2 E H2 x vs v us Q I2 Y r2 q2
end
def MtM(X:Cx)(id:String)(r:V->List V->Hp->VK->Prop):Prop :=
 ∀f s (j:St) H x xs v us Q,Inv X f j H s->RelV x v->Vals xs us->r x xs H Q ->
  aE (model X.prog X.w) X.A (call (.builtin id) (v::us)) (EP X f j Q) X.xe s
def Vals.one:∀{x:V}{us:List Value},Vals [x] us->∃u,us=[u]/\RelV x u:=by
 intro x us h;cases h with
 |cons r h=>cases h;exact⟨_,rfl,r⟩
def Vals.reverse(h:Vals xs us):Vals xs.reverse us.reverse:=by
 induction h with
 |nil=>exact .nil
 |cons r t f=>rw[d0,d0];exact Vals.append f (.cons r .nil)
theorem Vals.rep(h:Vals xs us):∀k ,Vals (bS k xs).flatten (bS k us).flatten
 |0=>.nil
 |k+1=>by
  exact Vals.append h (Vals.rep h k)
section
def Inv.lset{D B:List Value}(I:Inv X J L H s)(M:H l=some (.lst xs))(e:s.heap.get? l=some { cls := .type "list",data := .seq D.toArray n })(hf:f D.toArray=B.toArray)(O:Vals ys B)(hz:ys.length<=aI) :
  Inv X J L (upd H l (.lst ys)) { s with heap:=s.heap.update l (cm f),toks:=t' }:=by
 have q:=PySem.IsL.update e f;rw[hf]at q;refine I.write (by rw[M];exact trivial) (.inl rfl) (λT u j E=>(bK s.heap (cm f) (Ne.symm j)).trans E) ⟨_,q⟩ ?_;exact⟨hz,B,_,O,q⟩
def Inv.lnew(I:Inv X f B H s)(D:Vals ys l)(hz:ys.length<=aI) :
  Inv X f B (upd H s.heap.objs.size (.lst ys)) { s with heap:=s.heap.push { cls := .type "list",data := .seq l.toArray },toks:=t' } :=
 I.laid (λ_ _ q=>af _ q) (aB _) ⟨hz,l,0,D,ay _ rfl⟩
def Inv.fresh(I:Inv X f l H s):H s.heap.objs.size=none:=I.hok.fresh (aB _)
def Inv.lstM(I:Inv X B J H s)(D:H l=some (.lst xs)):xs.length<=aI/\∃f n,Vals xs f/\xs.length=f.length/\s.heap.get? l=some { cls := .type "list",data := .seq f.toArray n }:=by
 obtain⟨z,f,n,r,e⟩:=I.hok l _ D;exact⟨z,f,n,r,r.length,e⟩
def Qis(h:n<=aI):cW n=false:=by
 grind[cW]
end
section
def QkI:V->List V->Hp->VK->Prop:=λx vs H Q=>∃l xs y,x = .ref l/\vs=[y]/\H l=some (.lst xs)/\xs.length<aI/\Q .non (upd H l (.lst (xs++[y])))
def Qfy:MtM X "list.append" QkI:=by
 intro j s L H x vs v us Q I D E h;obtain⟨l,xs,y,rfl,rfl,B,hz,q⟩:=h;cases D;obtain⟨u,rfl,J⟩:=E.one;obtain⟨z,f,n,r,hl,e⟩:=I.lstM B;refine fE F.slot_list_append ⟨_,e,rfl⟩ F.entry_list_append (F.args_list_append_2 _ _) (PySem.list_append l f.toArray n u (by grind)) ⟨e,?_⟩;refine⟨.non,_,I.lset B e (by simp) (r.append (.cons J .nil)) ?_,rfl,q⟩;grind
def len_rep{α:Type}(xs:List α) k:(bS k xs).flatten.length=k*xs.length:=by
 induction k with
 |zero=>simp
 |succ k f=>rw[iG,List.flatten_cons,aO,f,Nat.succ_mul,Nat.add_comm]
end
end L2
namespace Att
open PySem PySem.W PySem.Calls PyProof.Rows
def QcW:∀ns vs,WellAll P h vs (ns.map WData.int)->mS vs ns:=by
 intro ns;induction ns with
 |nil =>
  intro vs w;cases w;exact .nil
 |cons n ns f =>
  intro vs w;cases w with
  |cons a b =>
   cases a;exact .cons _ _ (f _ b)
def QlW{l:mR}(J:l.most=some n)(f:l.row.toRowW.claim.pre args=true)(hwl:WellAll P h B args) :
  ∃a vs ns,B=[cR a]/\args=[WData.list (ns.map WData.int)]/\h.get? a=some { cls := .type "list",data := .seq vs.toArray }/\mS vs ns/\ns.length<=n:=by
 have H :=(pre_splitW f).1;have hc :=(pre_splitW f).2;obtain⟨d,r,rfl,h1,h2⟩:=hasAllW_cons H;obtain rfl:=hasAllW_nil h2;obtain⟨xs,rfl,L⟩:=hasW_list h1;obtain⟨ns,rfl⟩:=items_int L;have j:ns.length<=n:=by
  have E :=by
   have E:=(holds_andW hc).1;rw[J]at E;exact E
  have I:=condW_of E (w_not (w_lt w_lit (w_len_list (w_arg rfl))));refine mh λq=>?_;first
   | (exact absurd I (by decide))
   | (simp at I;lia)
 cases hwl with
 |cons M O =>
  cases O;cases M with
  |list ho D=>exact⟨_,_,ns,rfl,rfl,ho,QcW ns _ D,j⟩
def Qma(l:mR) args:l.row.toRowW.claim.post args (.bool true) args=true :=
 postW_of
  (show WShape.has [] (.bool true) .bool=true by first | rfl | decide | simp[  WShape.armsAll])
  (w_eq_bool (w_res rfl) w_lit) rfl
def attach_call{l:mR}(hn:l.most=some n)(M:d.params.defaults=[])(call:∀w s₀ B mg O I o T L doc a vs ns,
   Ground q D [] XP w s₀ mg O B.heap->YP w B.heap ->
   B.heap.get? I=some o->o.data = .func (docDef d.name d.params d.body d.scope T L doc)->B.heap.CodeRec L d.name->mg d.name=some (.ref I) ->
   B.heap.get? a=some { cls := .type "list",data := .seq vs.toArray }->mS vs ns->ns.length<=n->B.gens = #[] ->
   fC (model l.prog w) jE (.call (.ref I) ⟨[.ref a],[]⟩) (λr s'=>r = .ok (.ret (.bool true))/\OldK B.heap s'.heap/\s'.os=B.os/\iU s'.gens) B) :
  WalkO q D XP YP l.row.toRowW d [] (λf vs=>lz f vs):=by
 intro w s₀ B mg O G Y I o T L doc dV kV ho hd U hD av hg args az as E aq aj hwl ak;obtain rfl:dV = .none:=Dflts.none hD M;obtain rfl:kV = .none:=Dflts.noKw hD;obtain⟨a,vs,ns,rfl,rfl,H,j,J⟩:=QlW hn E hwl;refine enter_call (fh (call w s₀ B mg O I o T L doc a vs ns G Y ho (fd_plain hd) U av H j J hg) λr s' hq=>?_);obtain⟨rfl,h2,h3,h4⟩:=hq;exact⟨.inl ⟨.bool true,.bool true,[],rfl,λ_=>rfl,.bool true,Qma l _,λ_=>⟨List.Pairwise.nil,λ_ hm=>(nomatch hm)⟩⟩,h2,h3,h4⟩
end Att
namespace L2
open PySem PySem.Spec PyProof.Rows
def Qff:∀{vs:List Value}{ns:List Int},mS vs ns->Vals (ns.map V.int) vs:=by
 intro vs ns h;induction h with
 |nil=>exact .nil
 |cons n t h f=>exact .cons ⟨t,rfl⟩ f
def Only(H:Hp):Prop:=∀b,H b=none\/∃o xs,H b=some (.frz o (.lst xs))
def law_call{P:aY}{w:cf}{K:aa}{mg mb:Str->Option Value}{CX:CXT}{k:Nat}{fa a:Addr}{fd:d9}{x:Str}{sp:Sp}{f:aC}{vs:List Value}{ns:List Int}(KX:K.In f.heap)(J:f.heap.Ns dt mg)(l:f.heap.Ns builtinsNs mb)(av:∀x:Str,x≠"__name__"->mb x=cI x)(L:f.heap.NoLimit)(hg:f.gens = #[])(U:f.heap.get? a=some { cls := .type "list",data := .seq vs.toArray })(hi:mS vs ns)(hl:ns.length<=aI)(hr:Room k jE)(F:∀base ,K.In base->base.Ns dt mg->FnOk P w K mg base CX k fa fd [x] sp)(I:∀s u,mn s fd ⟨[u],[]⟩ [(x,u)])(az:∀H ,Only H->SqL K H a (ns.map V.int)->sp [.ref a] H (λv _=>v = .bl true) λ_ _ _=>False)(aq:∀H e s',CX [] H f (λ_ _ _=>False) e s'->False) :
  fC (model P w) jE (.call (.ref fa) ⟨[.ref a],[]⟩) (λr s'=>r = .ok (.ret (.bool true))/\OldK f.heap s'.heap/\s'.os=f.os/\iU s'.gens) f:=by
 have rv:=Qff hi;have E:=hi.length
 -- from an abstract heap in which nothing but the script may be tracked
 have D:∀H ,Only H->SqL K H a (ns.map V.int)->HOk P w H f.heap->(∀b,H b≠none->b=a)->(H a≠none->K.lookup a=none) ->
   fC (model P w) jE (.call (.ref fa) ⟨[.ref a],[]⟩) (λr s'=>r = .ok (.ret (.bool true))/\OldK f.heap s'.heap/\s'.os=f.os/\iU s'.gens) f:=by
  intro H hO hS hok hA hK;have j:∀{b:Addr}{o:Obj},f.heap.get? b=some o->H b=none->(hidT f.heap H).get? b=some o:=λe n=>hidT_get e n;have aj:∀{b:Addr}{o:Obj}{Y:Array DictEntry}{ep:Nat},f.heap.get? b=some o->o.data = .dict Y ep->H b=none:=λ{b o Y ep} e d=>by
   cases q:H b with
   |none=>rfl
   |some u =>
    have e' :=hA b (by rw[q];simp);subst e';rw[U]at e;cases e;have d' :=d;cases d'
  have B:∀{b:Addr}{m:Str->Option Value},f.heap.Ns b m->(hidT f.heap H).Ns b m:=λ{b m} zz=>by obtain⟨o,Y,ep,e,d,r⟩:=zz;exact⟨o,Y,ep,j e (aj e d),d,r⟩
  have M :=λb o e=>j (KX b o e) (by
   cases q:H b with
   |none=>rfl
   |some u =>
    have e' :=hA b (by rw[q];simp);subst e';rw[hK (by rw[q];simp)]at e;cases e)
  have hM:Mod K mg (hidT f.heap H):=⟨M,B J,⟨mb,B l,av⟩,let ⟨mc,h1,h2⟩:=L;⟨mc,B h1,h2⟩⟩
  have e0:Env0 P w K mg (hidT f.heap H) jE [] f H:=⟨rfl,hM,λb o e=>of_hidT e,Nat.le_of_eq (Qmy _ _),trivial,λb l=>absurd (show b∈[] from l) (by simp),hok,.of_eq hg⟩
  refine fh ((F _ M (B J)).run jE [] f H ⟨[.ref a],[]⟩ [.ref a] [.ref a] _ _ hr e0 (I f (.ref a)) (.cons rfl .nil) (az H hO hS)) λr s' h=>?_;cases r with
  |error e=>exact(aq H e s' h).elim
  |ok fl =>
   cases fl with
   |next=>exact cP h
   |brk=>exact cP h
   |cont=>exact cP h
   |ret u =>
    obtain⟨v,H',os,bare,un,O,r',q⟩:=h;have q' :=q;subst q';obtain rfl:u=eI true:=r';refine⟨rfl,OldK.of_keep λb o e=>?_,os,bare⟩;cases q:H b with
    |none=>exact un.keep b o e q (by intro z;exact absurd (show b∈[] from z) (by simp)) (by simp)
    |some u =>
     rcases hO b with z|⟨ob,xs,z⟩
     .rw[q]at z;cases z
     .have z2:=un.frzs b ob _ z;obtain⟨e1,_⟩:=hok b _ z;obtain⟨e2,_⟩:=O b _ z2;rw[e]at e1;cases e1;exact e2
 cases hk:K.lookup a with
 |some o =>
  -- the script is one of the module's own objects
  have e:=KX a o hk;rw[U]at e;cases e;refine D (λ_=>none) (λ_=>.inl rfl) (.inr ⟨_,vs.toArray,_,hk,rfl,rfl,rfl,by rw[aQ,E];exact hl,by simpa using rv⟩) (λb u z=>by have T :=z;cases T) (λb z=>absurd rfl z) λz=>absurd rfl z
 |none =>
  refine D (λb=>if b=a then some (.frz { cls := .type "list",data := .seq vs.toArray } (.lst (ns.map V.int))) else none) (λb=>?_) (.inl (.inr ⟨{ cls := .type "list",data := .seq vs.toArray },au rfl⟩)) (λb u z=>?_) (λb z=>?_) λ_=>hk
  .by_cases l:b=a
   .exact .inr ⟨_,_,au l⟩
   .exact .inl (aK l)
  .by_cases l:b=a
   .have T:=(au l).symm.trans z;cases T;subst l;exact⟨U,by rw[ai];exact hl,vs,_,rv,U⟩
   .have T:=(aK l).symm.trans z;cases T
  .by_cases l:b=a
   .exact l
   .exact absurd (aK l) z
abbrev KOf{K:aa}{h:Heap}(_:K.In h):aa:=K
end L2
namespace L2
open PySem PySem.Spec PyProof.Rows
def Zj(s:Stmt)(j:Nat):Stmt:=match s with
 |.ClassDef _ _ _ body _ _ _ _ _ _ _=>body.getD j (.Pass ⟨0,0,0,0⟩)
 |_=>.Pass ⟨0,0,0,0⟩
noncomputable def Qt(s:Stmt):Arguments:=match s with
 |.FunctionDef _ a _ _ _ _ _ _ _ _=>a
 |_=>{ posonlyargs:=[],args:=[],vararg:=none,kwonlyargs:=[],kw_defaults:=[],kwarg:=none,defaults:=[] }
def Qj(s:Stmt):List Stmt:=match s with
 |.FunctionDef _ _ b _ _ _ _ _ _ _=>b
 |_=>[]
def Qe(s:Stmt):fN:=match s with
 |.FunctionDef _ _ _ _ _ _ f _ _ _=>f
 |_=>{ kind := .function,names:=[],isGenerator:=false,isCoroutine:=false }
abbrev CX0:CXT:=λ_ _ _ _ _ _=>False
abbrev E0:XK:=λ_ _ _=>False
def Qhs:Qay CX0 X E0:=λ_ _ _ _ _ _ _ h=>h.elim
structure Fun (K:aa) (x qual:Str) (st:Stmt) (f:Addr) (fd:d9):Prop where
 ex:∃(oc:Value)(od:Option Addr)(kV doc pm:Value)(an:Option Addr)(cdv ct:Value)(osl:Array (Option Value)),
  fd=cD x qual (Qt st) (Qj st) (Qe st) .none kV doc pm an cdv ct/\K.lookup f=some ⟨oc,od,.func fd,osl⟩/\eM K cdv qual=true
 kp:bX K (.ref f)=true
section
def Fun.ok{P:aY}{K:aa}{st:Stmt}(F:Fun K x qual st f fd)(S:FnScope N ps (Qe st))(len:∀vs H Q E,sp vs H Q E->vs.length=ps.length)(B:∀l A outer s H vs Q E,Room k (A.deeper (cM qual (Qe st) s.heap.objs.size f l))->sp vs H Q E ->
   ∃t,PSs (cxOf CX0 P w K mg base N qual (Qe st) f l A outer s H E).nox (Qj st) t/\t { nx:=λ_ I=>Q .non I,rt:=Q } (YN N vs) H):FnOk P w K mg base CX0 (k+1) f fd ps sp:=by
 obtain⟨L,M,kV,doc,O,an,l,ct,J,rfl,lk,j⟩:=F.ex;refine Qnx lk j S len λA outer s H vs Q E hr D=>?_;obtain⟨t,h,q⟩:=B l A outer s H vs Q E hr D;exact⟨t,h.nox,q⟩
def Fun.binds{K:aa}{st:Stmt}(F:Fun K x qual st f fd)(h:∀kV doc B an l ct us,us.length=ps.length->fM (cD x qual (Qt st) (Qj st) (Qe st) .none kV doc B an l ct) ⟨us,[]⟩=pure (ps.zip us)):Zp K fd ps []:=by
 obtain⟨E,H,kV,doc,B,an,l,ct,j,rfl,lk,D⟩:=F.ex;exact .all (h kV doc B an l ct)
def fun_mk{K:aa}{st:Stmt}{kV doc D B ct:Value}(l:K.lookup f=some ⟨J,L,.func (cD x qual (Qt st) (Qj st) (Qe st) .none kV doc D an B ct),I⟩)(c:eM K B qual=true)(k:bX K (.ref f)=true):Fun K x qual st f (cD x qual (Qt st) (Qj st) (Qe st) .none kV doc D an B ct):=⟨⟨J,L,kV,doc,D,an,B,ct,I,rfl,l,c⟩,k⟩
end
section
def pv i (l:X.N[i]?=some x:=by rfl) (B:Vis X.env.scope x:=by first | exact Or.inl rfl | exact Or.inr (Or.inl rfl) | exact Or.inr (Or.inr rfl)) (hd:(x=="__debug__")=false:=by decide)
  (f:(x=="__classdict__")=false:=by decide):PE X (.Name x D) (tVar i):=pe_var l B hd f
end
def Same(H f:Hp):Prop:=∀b o,H b=some o->f b=some o
def Same.refl H:Same H H:=λ_ _ h=>h
def Same.trans{H f l:Hp}(a:Same H f)(b:Same f l):Same H l:=λc o h=>b c o (a c o h)
def Same.free(e:Same H f)(h:f l=Option.none):H l=Option.none:=by
 cases q:H l with
 |none=>rfl
 |some o =>
  rw[e l o q]at h;cases h
def Same.seq{K:aa}(e:Same H f)(h:SqL K H a xs):SqL K f a xs:=by
 rcases h with(h|⟨o,h⟩) | h
 .exact .inl (.inl (e _ _ h))
 .exact .inl (.inr ⟨o,e _ _ h⟩)
 .exact .inr h
end L2
namespace L2.PM
open PySem PySem.Spec PyProof.Rows
noncomputable def clos(env:Env):List (Str×i8)->List (Str×Addr)->List (Str×Addr)
 |[],acc=>acc
 | (n,k)::r,acc=>if k==i8.free then clos env r ((n,(env.cells.lookup n).getD 0)::acc) else clos env r acc
theorem Qex:∀l acc,(∀x∈l,x.2=i8.free->∃c,env.cells.lookup x.1=some c) ->
  (forIn l acc λx cs=>if (x.2==i8.free)=true then (do let a <-cellOf env x.1;pure (cA ((x.1,a)::cs))) else pure (cA cs))=(pure (clos env l acc):Sem _)
 |[],acc,_=>rfl
 | (n,k)::r,acc,h=>by
  have hr :=λx B=>h x (ax _ B);by_cases j:k=i8.free
  .subst j;obtain⟨c,hc⟩:=h (n,i8.free) bB rfl;have f:cellOf env n=pure c:=by delta cellOf;rw[hc]
   simp only[jy,  clos,f,hc];exact Qex r ((n,c)::acc) hr
  .have D:(k==i8.free)=false:=by simpa using j
   simp only[jy,D,  clos];exact Qex r acc hr
def Qbf(h:∀x∈scope.names,x.2=i8.free->∃c,env.cells.lookup x.1=some c):closureFor scope env=pure (clos env scope.names []):=by
 have e:=Qex scope.names [] h;have f:(λx cs=>(match x with
   | (name,kind)=>if (kind==i8.free)=true then (do let a <-cellOf env name;pure (cA ((name,a)::cs))) else pure (cA cs))) =
   (λx cs=>if (x.2==i8.free)=true then (do let a <-cellOf env x.1;pure (cA ((x.1,a)::cs))) else pure (cA cs)):=by
  funext x cs;cases x;rfl
 delta closureFor;dsimp only;rw[f,e];rfl
theorem Qcd:∀l acc,(x,i8.free)∈l\/acc.lookup x=env.cells.lookup x->(∀y∈l,y.2=i8.free->∃c,env.cells.lookup y.1=some c) ->
  (clos env l acc).lookup x=env.cells.lookup x
 |[],acc,h,_=>by
  rcases h with h | h
  .cases h
  .exact h
 | (n,k)::r,acc,h,hc=>by
  have hr :=λy E=>hc y (ax _ E);by_cases f:k=i8.free
  .subst f;obtain⟨c,j⟩:=hc (n,i8.free) bB rfl;refine Qcd r _ ?_ hr;by_cases B:x=n
   .subst B;right;simp[j]
   .have D:(x==n)=false:=by simpa using B
    rcases h with h | h
    .rcases ap.mp h with h | h
     .injection h with h1 _
      exact absurd h1 B
     .exact .inl h
    .right;simp only[a6,D];exact h
  .have D:(k==i8.free)=false:=by simpa using f
   simp only[clos,D];refine Qcd r acc ?_ hr;rcases h with h | h
   .rcases ap.mp h with h | h
    .injection h with _ h2
     exact absurd h2.symm f
    .exact .inl h
   .exact .inr h
theorem QgN:∀l acc,(acc.lookup x=some c->env.cells.lookup x=some c)->(∀y∈l,y.2=i8.free->∃c,env.cells.lookup y.1=some c) ->
  (clos env l acc).lookup x=some c->env.cells.lookup x=some c
 |[],acc,h,_,e=>h e
 | (n,k)::r,acc,h,hc,e=>by
  have hr:∀y∈r,y.2=i8.free->∃c,env.cells.lookup y.1=some c:=by grind
  by_cases f:k=i8.free
  .subst f;obtain⟨d,j⟩:=hc (n,i8.free) bB rfl;refine QgN r _ (λq=>?_) hr e;grind
  .have B:(k==i8.free)=false:=by grind
   simp only[clos,B]at e;exact QgN r acc h hr e
noncomputable def blkEnv(env:Env)(f:fN)(cl:List (Str×Addr))(C:Addr):Env :=
 {scope:=f,locals:=C,globals:=env.globals,cells:=cl,qual:=env.qual,func:=none,code:=env.code,frame:=env.frame,builtins:=env.builtins }
def YC(X:Cx)(f:List (Addr×Obj))(B:List Str)(l:fN)(cl:List (Str×Addr))(C:Addr)(s:aC)(H:Hp)(D:List Addr):Cx where
 prog:=X.prog
 w:=X.w
 K:=X.K
 mg:=X.mg
 base:=X.base
 A:=X.A
 N:=B
 s₀:=s
 H₀:=H
 env:=blkEnv X.env l cl C
 outer:=X.stack
 stack:=X.stack
 ex:=D
 fn:=λ_=>false
 calm:=X.calm
 pn:=X.pn++f
 xe:=λ_ _=>False
def Qs(osc scope:fN):fN :=
 {scope with names:=scope.names.map λ(n,k)=>if (k==.free&&osc.kind==.function&&osc.names.lookup n==some .cell) then (n,.cell) else (n,k) }
structure CompOk (N:List Str) (osc scope:fN) (N':List Str) (nt:Nat) (caps:List Nat):Prop where
 kind:scope.kind = .function
 nocell:∀x∈scope.names,x.2≠cV
 locs:∀x∈scope.names,x.2=i8.local->scope.names.lookup x.1=some .local
 free:∀x∈scope.names,x.2=i8.free->osc.names.lookup x.1=some .cell\/osc.names.lookup x.1=some .free
 len:N'.length=nt+caps.length
 cap:∀p∈caps.zip (N'.drop nt),N[p.1]?=some p.2/\scope.names.lookup p.2=some i8.free
def Xv(nt:Nat)(f:List Nat)(l:St):St:=bS nt none++f.map λj=>(l[j]?).getD none
section
def QmF(I:Inv X f D H s)(B:CompOk X.N X.env.scope scope J nt l):∀x∈scope.names,x.2=i8.free->∃c,X.env.cells.lookup x.1=some c:=λx j hf =>
 I.ok.has x.1 (B.free x j hf)
theorem Qbv{osc:fN}:∀{names:List (Str×i8)},names.lookup x=some i8.free ->
  (names.map λp=>if (p.2==i8.free&&osc.kind==.function&&osc.names.lookup p.1==some .cell) then (p.1,cV) else (p.1,p.2)).lookup x=some k->k = .cell\/k = .free
 |[],h,_=>by cases h
 | (n,q)::r,h,e=>by
  by_cases j:x=n
  .subst j;simp at h;subst h;simp at e;split at e<;>simp at e<;>simp[e.symm]
  .have f:(x==n)=false:=by simpa using j
   simp only[a6,f]at h;simp only[ba]at e;split at e
   .simp only[a6,f]at e;exact Qbv h e
   .simp only[a6,f]at e;exact Qbv h e
end
def PIfs(X:Cx)(l:List Expr)(t:TT):Prop :=
 ∀f s (j:St) H Q,Inv X f j H s->t j H Q ->
  aE (model X.prog X.w) X.A (forIn l true λc r=>if r=true then do let ok <-isTrue c X.env (eval c X.env);pure (cA ok) else pure (cA r)) (TP X f j Q) X.xe s
def tYes:TT:=λ_ H Q=>Q true H
def pifs_nil:PIfs X [] tYes:=λ_ _ _ H _ I h=>wpAny_tests_nil ⟨H,I,h⟩
def pifs_one(h:PT X c t):PIfs X [c] t:=λf s j H Q I l=>wpAny_tests_one (h f s j H Q I l)
def QhM{prog:aY}{w:cf}{A:dm}{R:kP->aC->Prop}{s:aC}{M target iter:Expr}{O:List Expr}{scope:fN}{U:Pos}{it acc:Value}{env:Env}(I:Nat->aC->Prop)(turn:∀n s,I n s->aE (model prog w) A (kH it) (λr f=>match r with
   |none=>R (.ok .next) f
   |some v=>aE (model prog w) A (kc target it v) (λ_ l=>aE (model prog w) A (assign target env v) (λ_ D =>
     aE (model prog w) A (forIn O true λc r=>if r=true then do let ok <-isTrue c env (eval c env);pure (cA ok) else pure (cA r)) (λok B =>
      if ok=true then aE (model prog w) A (eval M env) (λx J =>
       aE (model prog w) A (call (.builtin "list.append") [acc,x]) (λ_ L=>∃m,m<n/\I m L) (λ_ _=>False) J) (λ_ _=>False) B
      else ∃m,m<n/\I m B) (λ_ _=>False) D) (λ_ _=>False) l) (λ_ _=>False) f) (λ_ _=>False) s)(n:Nat)(h:I n s) :
  fC (model prog w) A (.compLoop (.ListComp M [⟨target,iter,O,0⟩] scope U) 0 it acc env) R s:=by
 refine codeAny_loop rfl I (λn s hI=>?_) n h;show aE _ A ((compTurn (.ListComp M [⟨target,iter,O,0⟩] scope U) 0 it acc env).onRaise (λx=>do fZ x env;theTreesLotGoes x)) _ _ s;refine wpAny_noted ?_;rw[compTurn_list];refine ac (wpAny_standAt (ac (da (turn n s hI) (λr f E=>?_) λ_ _ j=>j.elim)));cases r with
 |none=>exact ag E
 |some v =>
  refine ac (da E (λ_ l T=>?_) λ_ _ j=>j.elim);refine ac (da T (λ_ D Y=>ac (da Y (λok B H=>?_) λ_ _ j=>j.elim)) λ_ _ j=>j.elim);cases ok with
  |false=>exact ag ⟨rfl,H⟩
  |true =>
   exact ac (ac (da H (λx J av=>ac (da av (λ_ L az=>ag (ag ⟨rfl,az⟩)) λ_ _ j=>j.elim)) λ_ _ j=>j.elim))
def StExt(l f:St):Prop:=f.length=l.length/\∀(i:Nat) v,l[i]?=some (some v)->f[i]?=some (some v)
def Qfc(J:It)(nt:Nat)(f:List Nat)(g:TG)(tc:TT)(te:TE)(B:St)(I:Hp)(O:Addr->Hp->Prop):Prop :=
 ∀D,I D=none->∃W:Nat->Nat->List V->Hp->Prop,(∃m,W 0 m [] (upd I D (.lst []))) /\
  ∀i m xs H,W i m xs H->(J.stop i H/\O D H)\/(J.go i H/\∀x E,J.yld i H x E->g x (Xv nt f B) E λj T=>StExt (Xv nt f B) j /\
   tc j T λb L=>if b=true then te j L λv M=>M D=some (.lst xs)/\xs.length<aI/\∃l,l<m/\W (i+1) l (xs++[v]) (upd M D (.lst (xs++[v]))) else ∃l,l<m/\W (i+1) l xs L)
theorem Qkt:∀names n acc,(x,cV)∉names->(c6 n names acc).lookup x=acc.lookup x
 |[],_,_,_=>rfl
 | (y,k)::r,n,acc,h=>by
  have hr:(x,cV)∉r:=by grind
  unfold c6;split
  .rw[Qkt r _ _ hr,a6];grind
  .exact Qkt r _ _ hr
theorem Qkv:∀names (h:Heap) acc,(c6 h.objs.size names acc).lookup x=some c->acc.lookup x=some c\/(h.objs.size<=c/\(e9 h names).IsCell c none)
 |[],_,_,e=>.inl e
 | (y,k)::r,h,acc,e=>by
  unfold c6 at e;unfold e9;split at e
  .rename_i f;rw[au f];have e:(c6 (h.push { cls := .type "cell",data := .cell none }).objs.size r ((y,h.objs.size)::acc)).lookup x=some c:=by rw[bH];exact e
   rcases Qkv r _ _ e with z|⟨j,l⟩
   .rw[a6]at z;cases q:x==y with
    |true =>
     rw[q]at z;cases z;exact .inr ⟨aB _,_,iK r _ _ _ (ay _ rfl),rfl⟩
    |false=>rw[q]at z;exact .inl z
   .rw[bH]at j;exact .inr ⟨by lia,l⟩
  .rename_i f;rw[aK f];exact Qkv r h acc e
theorem Qku:∀names (n:Nat) (acc:List (Str×Addr)),(∀x c,acc.lookup x=some c->c<n)->(∀x y c,acc.lookup x=some c->acc.lookup y=some c->x=y)->∀x y c,(c6 n names acc).lookup x=some c->(c6 n names acc).lookup y=some c->x=y
 |[],_,_,_,h2,x,y,c,e1,e2=>h2 x y c e1 e2
 | (z,k)::r,n,acc,h1,h2,x,y,c,e1,e2=>by
  unfold c6 at e1 e2;split at e1
  .rename_i l;rw[au l]at e2;refine Qku r (n+1) ((z,n)::acc) (λx c e=>?_) (λx y c e1 e2=>?_) x y c e1 e2
   .rw[a6]at e;cases q:x==z with
    |true=>rw[q]at e;cases e;exact cU _
    |false=>rw[q]at e;exact cp (h1 x c e)
   .rw[a6]at e1 e2;cases j:x==z with
    |true =>
     cases f:y==z with
     |true=>rw[bg.mp j,bg.mp f]
     |false =>
      rw[j]at e1;rw[f]at e2;cases e1;exact absurd (h1 y _ e2) (b4 _)
    |false =>
     cases f:y==z with
     |true =>
      rw[j]at e1;rw[f]at e2;cases e2;exact absurd (h1 x _ e1) (b4 _)
     |false =>
      rw[j]at e1;rw[f]at e2;exact h2 x y c e1 e2
  .rename_i l;rw[aK l]at e2;exact Qku r n acc h1 h2 x y c e1 e2
def newEnvC{code:Value}(f:Q (newEnv scope s.heap.objs.size globals (c6 (s.heap.objs.size+1) scope.names closure) qual func code (some outer) builtins) { s with heap:=e9 (s.heap.push { cls := .type "dict",data := .dict #[] }) scope.names }) :
  aE M A (kI scope globals closure [] qual func code (some outer) builtins) Q E s:=by
 refine ac (wpAny_alloc ?_);refine ac (wpAny_layCells _ (by grind) _ _ _ _ ?_);rw[bH ..];exact ac (ag (ag f))
def ownC(scope:fN):Str->Bool:=λx=>scope.names.lookup x==some cV
def Xa(X:Cx)(fn:Str->Bool)(f:List (Addr×Obj))(B:List Str)(l:fN)(cl:List (Str×Addr))(C:Addr)(s:aC)(H:Hp)(D:List Addr):Cx:={ YC X f B l cl C s H D with fn:=fn }
structure CompOkC (N:List Str) (osc scope:fN) (N':List Str) (nt:Nat) (caps:List Nat):Prop where
 kind:scope.kind = .function
 nd:∀x,(x,cV)∈scope.names->(x,i8.free)∉scope.names
 locs:∀x∈scope.names,x.2=i8.local->scope.names.lookup x.1=some .local
 free:∀x∈scope.names,x.2=i8.free->osc.names.lookup x.1=some .cell\/osc.names.lookup x.1=some .free
 len:N'.length=nt+caps.length
 cap:∀p∈caps.zip (N'.drop nt),N[p.1]?=some p.2/\scope.names.lookup p.2=some i8.free
section
def QdD(I:Inv X f D H s)(B:CompOkC X.N X.env.scope scope J nt l):∀x∈scope.names,x.2=i8.free->∃c,X.env.cells.lookup x.1=some c:=λx j hf =>
 I.ok.has x.1 (B.free x j hf)
theorem Qey:∀l acc,(clos env l acc).lookup x=some c->(x,i8.free)∈l\/acc.lookup x=some c
 |[],_,e=>.inr e
 | (n,k)::r,acc,e=>by
  by_cases f:k=i8.free
  .subst f;rcases Qey r _ e with z | z
   .exact .inl (ax _ z)
   .rw[a6]at z;cases q:x==n with
    |true=>exact .inl (by rw[bg.mp q];exact bB)
    |false=>rw[q]at z;exact .inr z
  .have j:(k==i8.free)=false:=by simpa using f
   simp only[clos,j]at e;rcases Qey r acc e with z | z
   .exact .inl (ax _ z)
   .exact .inr z
theorem QcH{osc:fN}:∀(names:List (Str×i8)) k,(k=cV\/k=i8.free) ->
  (names.map λp=>if (p.2==i8.free&&osc.kind==.function&&osc.names.lookup p.1==some .cell) then (p.1,cV) else (p.1,p.2)).lookup x=some k->names.lookup x=some cV\/names.lookup x=some i8.free
 |[],_,_,e=>by cases e
 | (n,q)::r,k,j,e=>by
  by_cases l:x=n
  .subst l;simp only[ba]at e;split at e
   .rename_i f;simp at f;exact .inr (by simp[f.1.1])
   .simp at e;subst e;rcases j with j | j
    .exact .inl (by simp[j])
    .exact .inr (by simp[j])
  .have B:(x==n)=false:=by simpa using l
   simp only[a6,B];refine QcH (osc:=osc) r k j ?_;simp only[ba]at e;split at e<;>(simp only[a6,B]at e;exact e)
def blk_invC(I:Inv X J σ H s)(hc:X.calm=true)(Y:CompOkC X.N X.env.scope scope N' nt l)(hf:∀b∈fp,FpOk X J H b)(av:∀b∈fp,b<s.heap.objs.size){tk:Nat} :
  Inv (Xa X (ownC scope) J N' (Qs X.env.scope scope) (c6 (s.heap.objs.size+1) scope.names (clos X.env scope.names [])) s.heap.objs.size s H fp) [] (Xv nt l σ) H { s with heap:=e9 (s.heap.push { cls := .type "dict",data := .dict #[] }) scope.names,toks:=tk }:=by
 have fc:=QdD I Y;have D:∀x c,(clos X.env scope.names []).lookup x=some c->X.env.cells.lookup x=some c:=λx c e=>QgN scope.names [] (λq=>by cases q) fc e;have E:∀b u,s.heap.get? b=some u->(e9 (s.heap.push { cls := .type "dict",data := .dict #[] }) scope.names).get? b=some u:=λb u e=>iK _ _ b u (af _ e);have hn:(e9 (s.heap.push { cls := .type "dict",data := .dict #[] }) scope.names).Ns s.heap.objs.size (λ_=>none):=(Heap.Ns.new s.heap (.type "dict")).keeps (iK _ _);have aq:∀x c,(clos X.env scope.names []).lookup x=some c->c<s.heap.objs.size:=λx c e=>by
  obtain⟨v,hv⟩:=I.cell x c (D x c e);exact hv.lt
 have B:∀x c,(c6 (s.heap.objs.size+1) scope.names (clos X.env scope.names [])).lookup x=some c->(clos X.env scope.names []).lookup x=some c\/(s.heap.objs.size+1<=c/\(e9 (s.heap.push { cls := .type "dict",data := .dict #[] }) scope.names).IsCell c none):=λx c e=>by
  have:=Qkv (x:=x) (c:=c) scope.names (s.heap.push { cls := .type "dict",data := .dict #[] }) (clos X.env scope.names []);rw[bH]at this;exact this e
 have az:=Qku scope.names (s.heap.objs.size+1) (clos X.env scope.names []) (λx c e=>cp (aq x c e)) (λx y c h1 h2=>I.ok.inj x y c (D x c h1) (D y c h2));have T:∀b∈frs X.stack,b∈X.env.locals::X.fs:=I.stkSub;refine⟨⟨I.ok.mod,Y.kind,I.ok.glob,I.ok.blt,aB _,az,λx L=>?_,λx c L e=>?_,λz=>I.ok.hd z,I.ok.frames,.inl rfl,λb hb=>?_,I.bs,aS I.ok.bsz I.sz,λb u e hb=>?_,λb hb z=>?_,I.stack,I.stkFree⟩,
  rfl,I.bare,Un.kept E,⟨_,hn,λi x v h1 h2 M=>?_⟩,λx c e=>?_,I.hok.fresh (aB _),λx c e=>?_,λp hp=>?_,I.hok.kept E,?_⟩
 ·-- has
  have hm:scope.names.lookup x=some cV\/scope.names.lookup x=some i8.free:=by
   rcases L with L | L
   .exact QcH scope.names _ (.inl rfl) L
   .exact QcH scope.names _ (.inr rfl) L
  rcases hm with hm | hm
  .exact cK.mp (fo scope.names _ _ (.inl hm))
  .have f:=cF hm;obtain⟨c,aj⟩:=fc _ f rfl;exact cK.mp (fo scope.names _ _ (.inr (by rw[Qcd scope.names [] (.inl f) fc,aj];rfl)))
 ·-- cab
  have L:=bg.mp L;rcases B x c e with z | z
  .exfalso;rcases Qey scope.names [] z with q | q
   .exact Y.nd _ (cF L) q
   .cases q
  .exact i7 z.1
 ·-- exf
  obtain⟨_,f1,f2,f3,f4,_⟩:=hf b hb;refine⟨aL (av b hb),λx c e=>?_⟩;rcases B x c e with z | z
  .exact f4 x c (D x c z)
  .exact λq=>by
    have:=av b hb;rw[<-q]at this;exact absurd (aF (cU _) z.1) (Nat.not_lt.mpr (b8 this))
 ·-- noex
  obtain⟨_,f1,f2,f3,f4,_⟩:=hf b hb;rcases f3 with z | z
  .exact I.ok.noex b u e z
  .exact absurd (aF (aD e) (aS I.ok.bsz z)) (b4 _)
 ·-- exfs
  obtain⟨_,f1,f2,_⟩:=hf b hb;rcases ap.mp (T b z) with q | q
  .exact f1 q
  .exact f2 q
 ·-- loc
  have h2:(Xv nt l σ)[i]?=some (some v):=h2;have h1:N'[i]?=some x:=h1;delta Xv at h2;by_cases hi:i<nt
  .rw[b6 (by simpa using hi),dE,au hi]at h2;cases h2
  .rw[c8 (by simpa using hi),dg,aT]at h2;cases ej:l[i-nt]? with
   |none=>rw[ej]at h2;cases h2
   |some j =>
    rw[ej]at h2;have h2:(σ[j]?).getD none=some v:=br h2;have ak:σ[j]?=some (some v):=by
     cases eq:σ[j]? with
     |none=>rw[eq]at h2;cases h2
     |some y=>rw[eq]at h2;exact congrArg some h2
    have hz:(j,x)∈l.zip (N'.drop nt):=by
     refine bT (i:=i-nt) ?_;rw[List.getElem?_zip_eq_some];refine⟨ej,?_⟩;rw[iR,show nt+(i-nt)=i by lia];exact h1
    obtain⟨hN,O⟩:=Y.cap _ hz;have O:scope.names.lookup x=some i8.free:=O;have f:=cF O;have U:=Y.free _ f rfl;have U:X.env.scope.names.lookup x=some .cell\/X.env.scope.names.lookup x=some .free:=U;have aJ:(x,cV)∉scope.names:=λq=>Y.nd _ q f;obtain⟨m0,bz,aZ⟩:=I.loc;obtain⟨u,ru,lk⟩:=aZ j x v hN ak (.inr U);refine⟨u,ru,?_⟩;rcases lk with⟨k0,_⟩|⟨_,c,ec,zc⟩
    .have k0:X.env.scope.names.lookup x=some .local:=k0;rcases U with U | U<;>(rw[k0]at U;cases U)
    .refine .inr ⟨?_,c,((Qkt scope.names _ _ aJ).trans (Qcd scope.names [] (.inl f) fc)).trans ec,?_⟩
     .have M:(Qs X.env.scope scope).names.lookup x=some .local\/(Qs X.env.scope scope).names.lookup x=some .cell\/(Qs X.env.scope scope).names.lookup x=some .free:=M;rcases M with M | M | M
      .rcases Qbv O M with z | z<;>cases z
      .exact .inl M
      .exact .inr M
     .obtain⟨ob,ho,hd⟩:=zc;exact⟨ob,E c ob ho,hd⟩
 ·-- cell
  rcases B x c e with z | z
  .obtain⟨v,ob,ho,hd⟩:=I.cell x c (D x c z);exact⟨v,ob,E c ob ho,hd⟩
  .exact⟨none,z.2⟩
 ·-- freeC
  rcases B x c e with z | z
  .exact I.freeC x c (D x c z)
  .exact I.hok.fresh (i7 z.1)
 ·-- pin
  have bv:p∈X.pn++J:=by
   rcases aP.mp hp with z | z
   .exact z
   .cases z
  obtain⟨e,n,ne,nf,d⟩:=I.pin p bv;refine⟨E _ _ e,n,aL (aD e),λz=>?_,d⟩;rcases ap.mp (T p.1 z) with q | q
  .exact ne q
  .exact nf q
 ·-- len
  show(Xv nt l σ).length=N'.length;delta Xv;rw[Y.len];simp
end
section
def QfM{J:It}{it:Addr}{tn:Nat->Heap->Prop}{g:TG}{tc:TT}{te:TE}{Qd:Addr->Hp->Prop}{RR:Value->Addr->kP->aC->Prop}{E:Value->aC->Prop}(I:Inv X l σ H s)(hc:X.calm=true)(ck:CompOkC X.N X.env.scope scope N' nt L)(ek:relabel scope X.env=Qs X.env.scope scope)(T:Turn X.prog X.w X.K tg J M it tn)(h0:tn 0 s.heap)(hf:∀b∈M,FpOk X l H b)(hg:∀l cl C s H M,PG (Xa X (ownC scope) l N' (Qs X.env.scope scope) cl C s H M) tg g)(ht:∀l cl C s H M,PIfs (Xa X (ownC scope) l N' (Qs X.env.scope scope) cl C s H M) bv tc)(he:∀l cl C s H M,PE (Xa X (ownC scope) l N' (Qs X.env.scope scope) cl C s H M) bz te)(rd:Qfc J nt L g tc te σ H Qd)(dq:∀D C s' B,Inv X l σ B s'->(∃m,s'.heap.Ns C m)->FpOk X l B C->Qd D B->RR (.ref D) C (.ok .next) s') :
  aE (model X.prog X.w) X.A (newList []) (λacc O=>aE (model X.prog X.w) X.A (kI scope X.env.globals (clos X.env scope.names []) [] X.env.qual none .none (some X.env)) (λaz bq =>
   fC (model X.prog X.w) X.A (.compStart (.ListComp bz [⟨tg,iter,bv,0⟩] scope dk) 0 (.ref it) acc { az with scope:=relabel scope X.env }) (RR acc az.locals) bq) E O) E s:=by
 have hD:H s.heap.objs.size=none:=I.fresh;obtain⟨W,⟨m0,w0⟩,turn⟩:=rd s.heap.objs.size hD;refine bU (newEnvC ?_);have I3:Inv X l σ (upd H s.heap.objs.size (.lst [])) { s with heap:=s.heap.push { cls := .type "list",data := .seq ([]:List Value).toArray } }:=I.lnew (t':=s.toks) .nil (cG _);have bj:∀b∈M,b<s.heap.objs.size:=λb j=>by
  obtain⟨o,e,_⟩:=T.obj 0 _ h0 b j;exact aD e
 have bJ:∀b∈M,FpOk X l (upd H s.heap.objs.size (.lst [])) b:=λb j=>by
  obtain⟨f0,f⟩:=hf b j;exact⟨by rw[Qh (aL (bj b j))];exact f0,f⟩
 have aq:∀b∈M,b<(s.heap.push { cls := .type "list",data := .seq ([]:List Value).toArray }).objs.size:=λb j=>by
  rw[bH];exact cp (bj b j)
 have IB:=blk_invC (tk:=s.toks) I3 hc ck bJ aq;have aj:∀b o,s.heap.get? b=some o->(e9 ((s.heap.push { cls := .type "list",data := .seq ([]:List Value).toArray }).push { cls := .type "dict",data := .dict #[] }) scope.names).get? b=some o:=λb o e=>iK _ _ b o (af _ (af _ e));have bZ:tn 0 (e9 ((s.heap.push { cls := .type "list",data := .seq ([]:List Value).toArray }).push { cls := .type "dict",data := .dict #[] }) scope.names):=T.keep _ _ _ h0 λb _ o e=>aj b o e;have cv:=hg l (c6 ((s.heap.push { cls := .type "list",data := .seq ([]:List Value).toArray }).objs.size+1) scope.names (clos X.env scope.names [])) (s.heap.push { cls := .type "list",data := .seq ([]:List Value).toArray }).objs.size { s with heap:=s.heap.push { cls := .type "list",data := .seq ([]:List Value).toArray } } (upd H s.heap.objs.size (.lst [])) M;have cz:=ht l (c6 ((s.heap.push { cls := .type "list",data := .seq ([]:List Value).toArray }).objs.size+1) scope.names (clos X.env scope.names [])) (s.heap.push { cls := .type "list",data := .seq ([]:List Value).toArray }).objs.size { s with heap:=s.heap.push { cls := .type "list",data := .seq ([]:List Value).toArray } } (upd H s.heap.objs.size (.lst [])) M;have cq:=he l (c6 ((s.heap.push { cls := .type "list",data := .seq ([]:List Value).toArray }).objs.size+1) scope.names (clos X.env scope.names [])) (s.heap.push { cls := .type "list",data := .seq ([]:List Value).toArray }).objs.size { s with heap:=s.heap.push { cls := .type "list",data := .seq ([]:List Value).toArray } } (upd H s.heap.objs.size (.lst [])) M;have hY:∃Y:Cx,Y=Xa X (ownC scope) l N' (Qs X.env.scope scope) (c6 ((s.heap.push { cls := .type "list",data := .seq ([]:List Value).toArray }).objs.size+1) scope.names (clos X.env scope.names [])) (s.heap.push { cls := .type "list",data := .seq ([]:List Value).toArray }).objs.size { s with heap:=s.heap.push { cls := .type "list",data := .seq ([]:List Value).toArray } } (upd H s.heap.objs.size (.lst [])) M:=⟨_,rfl⟩
 obtain⟨Y,eY⟩:=hY;have eP:Y.prog=X.prog:=by rw[eY];rfl
 have eW:Y.w=X.w:=by rw[eY];rfl
 have eK:Y.K=X.K:=by rw[eY];rfl
 have eA:Y.A=X.A:=by rw[eY];rfl
 have eC:Y.calm=true:=by rw[eY];exact hc
 have eE:Y.xe=λ_ _=>False:=by rw[eY];rfl
 have cj:Y.env=blkEnv X.env (Qs X.env.scope scope) (c6 ((s.heap.push { cls := .type "list",data := .seq ([]:List Value).toArray }).objs.size+1) scope.names (clos X.env scope.names [])) (s.heap.push { cls := .type "list",data := .seq ([]:List Value).toArray }).objs.size:=by rw[eY];rfl
 have back:∀{B:Hp}{s':aC},Inv Y [] (Xv nt L σ) B s'->Inv X l σ B s'/\(∃m,s'.heap.Ns (s.heap.push { cls := .type "list",data := .seq ([]:List Value).toArray }).objs.size m)/\FpOk X l B (s.heap.push { cls := .type "list",data := .seq ([]:List Value).toArray }).objs.size:=by
  intro B s' IY;subst eY;refine⟨I3.call' (ch:=M) IY.os IY.base IY.hok IY.bare λb j=>?_,?_,I3.fpOk (aB _) IY.free⟩
  .obtain⟨_,f1,_,f3,f4,f5⟩:=hf b j;exact⟨f3,f1,f4,f5⟩
  .obtain⟨m,hn,_⟩:=IY.loc;exact⟨m,hn⟩
 have ak:∀{B:Hp},(∀b∈M,B b=none)->∀b∈M,FpOk Y [] B b:=by
  intro B hn b j;subst eY;obtain⟨_,f1,f2,f3,f4,f5⟩:=hf b j;refine⟨hn b j,aL (aq b j),IB.ok.exfs b j,.inl j,(IB.ok.exf b j).2,λp hp=>?_⟩;rcases aP.mp hp with z | z
  .exact f5 p z
  .cases z
 have IB:Inv Y [] (Xv nt L σ) (upd H s.heap.objs.size (.lst [])) { s with heap:=(e9 ((s.heap.push { cls := .type "list",data := .seq ([]:List Value).toArray }).push { cls := .type "dict",data := .dict #[] }) scope.names),toks:=s.toks }:=by rw[eY];exact IB
 rw[<-eY]at cv cz cq;have av:∀O:aC,O={ s with heap:=(e9 ((s.heap.push { cls := .type "list",data := .seq ([]:List Value).toArray }).push { cls := .type "dict",data := .dict #[] }) scope.names),toks:=s.toks } ->
   fC (model X.prog X.w) X.A (.compLoop (.ListComp bz [⟨tg,iter,bv,0⟩] scope dk) 0 (.ref it) (.ref s.heap.objs.size) Y.env) (RR (.ref s.heap.objs.size) (s.heap.push { cls := .type "list",data := .seq ([]:List Value).toArray }).objs.size) O:=by
  rintro O rfl;refine QhM (λn s'=>∃i xs B,Inv Y [] (Xv nt L σ) B s'/\tn i s'.heap/\(∀b∈M,B b=none)/\W i n xs B) ?_ m0 ⟨0,[],_,IB,bZ,λb j=>(bJ b j).1,w0⟩;rintro n s4 ⟨i,xs,H4,I4,cJ,cZ,w4⟩;rcases turn i n xs H4 w4 with⟨stop,q⟩|⟨go,step⟩
  .have z:=T.done Y eP eW eK eC i [] s4 _ H4 (λ_ _=>False) I4 (ak cZ) cJ stop;rw[eA]at z;refine thn z λr s5 ⟨hr,I5⟩=>?_;subst hr;obtain⟨a1,a2,a3⟩:=back I5;exact dq _ _ s5 H4 a1 a2 a3 q
  .have z:=T.item Y eP eW eK eC i [] s4 _ H4 (λ_ _=>False) I4 (ak cZ) cJ go;rw[eA]at z;refine thn z λr s5 zz=>?_;obtain⟨u,hr,h5⟩:=zz;subst hr;refine thn h5 λ_ s6 zz=>?_;obtain⟨x,H6,I6,r6,y6,aJ,dJ⟩:=zz;have dZ:=I6.pinned (ak dJ) (T.obj _ _ aJ);have again:∀{U:St}{H7:Hp}{s7:aC}{aZ:List V},Inv Y ([]++QeR M s6.heap) U H7 s7->StExt (Xv nt L σ) U->(∃m',m'<n/\W (i+1) m' aZ H7) ->
     ∃m,m<n/\∃i xs B,Inv Y [] (Xv nt L σ) B s7/\tn i s7.heap/\(∀b∈M,B b=none)/\W i m xs B:=λ{U H7 s7 aZ} I7 ex zz=>by
    obtain⟨m',hm,w7⟩:=zz;refine⟨m',hm,i+1,aZ,H7,(I7.unpinned).weak ex.1.symm ex.2,T.keep _ _ _ aJ λb j o e=>(I7.pin (b,o) (aV _ (aV _ (Qah j e)))).1,λb j=>?_,w7⟩;obtain⟨o,e,d⟩:=T.obj _ _ aJ b j;exact(I7.pin (b,o) (aV _ (aV _ (Qah j e)))).2.1
   have z2:=cv _ s6 _ H6 x u _ dZ r6 (step x H6 y6);rw[eP,eW,eA,eE]at z2;refine thn z2 λ_ s7 zz=>?_;obtain⟨U,H7,I7,dz,q7⟩:=zz;have z3:=cz _ s7 U H7 _ I7 q7;rw[eP,eW,eA,eE]at z3;refine thn z3 λb s8 zz=>?_;obtain⟨H8,I8,q8⟩:=zz;cases b with
   |false =>
    rw[aK gx]at q8 |-;exact again I8 dz q8
   |true =>
    rw[au rfl]at q8 |-;have z4:=cq _ s8 U H8 _ I8 q8;rw[eP,eW,eA,eE]at z4;refine thn z4 λxv s9 zz=>?_;obtain⟨v,H9,I9,r9,ev,ez,q9⟩:=zz;have z5:=Qfy (X:=Y) _ s9 U H9 (.ref s.heap.objs.size) [v] (.ref s.heap.objs.size) [xv] (λ_ B=>∃m',m'<n/\W (i+1) m' (xs++[v]) B) I9 rfl (.cons r9 .nil) ⟨_,xs,v,rfl,rfl,ev,ez,q9⟩;rw[eP,eW,eA,eE]at z5;refine thn z5 λ_ s10 zz=>?_;obtain⟨_,eJ,eq,_,ej⟩:=zz;exact again eq dz ej
 rw[cj]at av;refine codeAny_compStart_list (av _ rfl) (T.self _ 0 _ _ _ bZ (av _ rfl))
end
def CompOk.C(f:CompOk N osc scope B nt l):CompOkC N osc scope B nt l:=⟨f.kind,λx q=>absurd rfl (f.nocell _ q),f.locs,f.free,f.len,f.cap⟩
def CompOk.eqC(l:CompOk N osc scope B nt f) X:Xa X (ownC scope)=YC X:=by
 have own:ownC scope=λ_=>false:=funext λx=>by
  show(scope.names.lookup x==some cV)=false;rw[aW];exact λq=>l.nocell _ (cF q) rfl
 rw[own];rfl
section
def comp_run{RR:Value->Addr->kP->aC->Prop}(I:Inv X f σ H s)(hc:X.calm=true)(ck:CompOk X.N X.env.scope scope Y nt L)(M:relabel scope X.env=Qs X.env.scope scope)(T:Turn X.prog X.w X.K tg J B it tn)(h0:tn 0 s.heap)(hf:∀b∈B,FpOk X f H b)(hg:∀f cl C s H B,PG (YC X f Y (Qs X.env.scope scope) cl C s H B) tg g)(ht:∀f cl C s H B,PIfs (YC X f Y (Qs X.env.scope scope) cl C s H B) av tc)(he:∀f cl C s H B,PE (YC X f Y (Qs X.env.scope scope) cl C s H B) az te)(rd:Qfc J nt L g tc te σ H Qd)(aq:∀D C s' H',Inv X f σ H' s'->(∃m,s'.heap.Ns C m)->FpOk X f H' C->Qd D H'->RR (.ref D) C (.ok .next) s') :
  aE (model X.prog X.w) X.A (newList []) (λacc O=>aE (model X.prog X.w) X.A (kI scope X.env.globals (clos X.env scope.names []) [] X.env.qual none .none (some X.env)) (λl U =>
   fC (model X.prog X.w) X.A (.compStart (.ListComp az [⟨tg,iter,av,0⟩] scope aj) 0 (.ref it) acc { l with scope:=relabel scope X.env }) (RR acc l.locals) U) E O) E s:=by
 have e:=ck.eqC X;exact QfM I hc ck.C M T h0 hf (by rw[e];exact hg) (by rw[e];exact ht) (by rw[e];exact he) rd aq
def FpOk.turn(I:Inv X l D B s')(f:FpOk X l B C)(J:bR C s'.heap L):Inv X l D B { s' with heap:=L }:=by
 obtain⟨f0,j,T,E,H,M⟩:=f;exact I.turned (λb o O e=>J.extBut b o O e) f0 j E H M
def tComp(l:TI)(nt:Nat)(f:List Nat)(g:TG)(tc:TT)(te:TE):TE:=λj H Q=>l j H λJ B=>Qfc J nt f g tc te j B λD E=>Q (.ref D) E
def pe_comp(hc:X.calm=true)(O:CompOk X.N X.env.scope scope U nt L)(hi:PI X tg iter wi)(hg:∀l cl C s H B,PG (YC X l U (Qs X.env.scope scope) cl C s H B) tg g)(ht:∀l cl C s H B,PIfs (YC X l U (Qs X.env.scope scope) cl C s H B) Y tc)(he:∀l cl C s H B,PE (YC X l U (Qs X.env.scope scope) cl C s H B) av te)(hs:∀x,cb iter X.env x=pure x:=by intro _;rfl)(M:relabel scope X.env=Qs X.env.scope scope:=by rfl) :
  PE X (.ListComp av [⟨tg,iter,Y,0⟩] scope aJ) (tComp wi nt L g tc te):=by
 intro l s σ H Q I h;refine lp rfl hs (Qbf (QmF I O)) O.kind O.locs (thn (hi l s σ H _ I h) λxv aj j=>thn j λaZ ak E=>?_);obtain⟨it,B,tn,J,H2,e,I2,T,az,f2,rd⟩:=E;subst e;refine comp_run I2 hc O M T az f2 hg ht he rd ?_;intro D C s' H' I' hm f q;obtain⟨m,hm⟩:=hm;exact⟨m,hm,λh' aq=>⟨.ref D,H',FpOk.turn I' f aq,rfl,q⟩⟩
def sSetComp(i:Nat)(l:TI)(nt:Nat)(f:List Nat)(g:TG)(tc:TT)(te:TE):TS:=λD j H=>l j H λJ B=>Qfc J nt f g tc te j B λd E=>D.nx (j.set i (some (.ref d))) E
def Qhr(hN:X.N.Nodup)(az:X.N[i]?=some y)(hy:X.env.scope.names.lookup y=some .local)(hc:X.calm=true)(ck:CompOkC X.N X.env.scope scope N' nt L)(hi:PI X tg iter wi)(hg:∀l cl C s H B,PG (Xa X (ownC scope) l N' (Qs X.env.scope scope) cl C s H B) tg g)(ht:∀l cl C s H B,PIfs (Xa X (ownC scope) l N' (Qs X.env.scope scope) cl C s H B) M tc)(he:∀l cl C s H B,PE (Xa X (ownC scope) l N' (Qs X.env.scope scope) cl C s H B) O te)(aq:cB (.ListComp O [⟨tg,iter,M,0⟩] scope aj) (some (.Name y py)) U.line X.env=pure true:=by rfl)(hs:∀x,cb iter X.env x=pure x:=by intro _;rfl)(Y:relabel scope X.env=Qs X.env.scope scope:=by rfl) :
  PS X (.Assign [.Name y py] (.ListComp O [⟨tg,iter,M,0⟩] scope aj) U) (sSetComp i wi nt L g tc te):=by
 intro l s σ H D I h;rw[exec_Assign_Name_used _ _ _ _ aq];refine ac (wpAny_standAt (ac ?_));refine ac (da (lp rfl hs (Qbf (QdD I ck)) ck.kind ck.locs
  (thn (hi l s σ H _ I h) λxv bz j=>thn j λbj bq E=>?_)) (λ_ s' hq=>ag (ag hq)) λ_ _ e=>e)
 obtain⟨it,B,tn,J,H2,e,I2,T,ak,f2,rd⟩:=E;subst e;refine QfM I2 hc ck Y T ak f2 hg ht he rd ?_;intro d C s' H' I' hm f q;obtain⟨m,hm⟩:=hm;refine wpAny_assign_Name (Qfk I' hN az (.inl hy) (show RelV (.ref d) (.ref d) from rfl) (λbJ aJ av=>?_) (.inr hy));obtain⟨a,sb,ha⟩:=av;have aZ:C≠a:=by
  rcases ha with ha | ha
  .rw[ha];exact f.2.1
  .exact λz=>f.2.2.2.2.1 _ _ ha z.symm
 exact⟨m,hm.sameBut sb aZ,λh' bv=>⟨_,H',FpOk.turn aJ f bv,q⟩⟩
end
inductive PV where
 |non | bl (b:Bool) | int (i:Int) | str (x:Str) | tup (xs:List PV) | lst (xs:List PV) | obj (C:Addr) (ks:List Str) (ps:List PV) | opq (a:Addr)
mutual
def Rep(K:aa)(F:Hp):PV->V->Prop
 |.non,v=>v = .non
 |.bl b,v=>v = .bl b
 |.int i,v=>v = .int i
 |.str x,v=>v = .str x
 |.tup xs,v=>∃a vs,v = .ref a/\SqT K F a vs/\RepL K F xs vs
 |.lst xs,v=>∃a vs,v = .ref a/\SqL K F a vs/\RepL K F xs vs
 |.obj C ks ps,v=>∃a f vs,v = .ref a/\F a=some (.ins C f (ks.zip vs))/\F f=some (.own a)/\ks.length=vs.length/\RepL K F ps vs
 |.opq a,v=>v = .ref a
def RepL(K:aa)(F:Hp):List PV->List V->Prop
 |[],vs=>vs=[]
 |x::xs,vs=>∃v r,vs=v::r/\Rep K F x v/\RepL K F xs r
end
def _root_.L2.Same.seqT{K:aa}(e:Same H f)(h:SqT K H a xs):SqT K f a xs:=by
 rcases h with(h|⟨o,h⟩) | h
 .exact .inl (.inl (e _ _ h))
 .exact .inl (.inr ⟨o,e _ _ h⟩)
 .exact .inr h
section
mutual
theorem Rep.mono{K:aa}{F:Hp}(e:Same F l):∀{p:PV}{v:V},Rep K F p v->Rep K l p v
 |.non,_,h=>h
 |.bl _,_,h=>h
 |.int _,_,h=>h
 |.str _,_,h=>h
 |.tup xs,_,h=>by
  unfold Rep at h |-;obtain⟨a,vs,h1,h2,f⟩:=h;exact⟨a,vs,h1,e.seqT h2,RepL.mono e f⟩
 |.lst xs,_,h=>by
  unfold Rep at h |-;obtain⟨a,vs,h1,h2,f⟩:=h;exact⟨a,vs,h1,e.seq h2,RepL.mono e f⟩
 |.obj C ks ps,_,h=>by
  unfold Rep at h |-;obtain⟨a,j,vs,h1,h2,f,B,D⟩:=h;exact⟨a,j,vs,h1,e _ _ h2,e _ _ f,B,RepL.mono e D⟩
 |.opq _,_,h=>h
theorem RepL.mono{K:aa}{F:Hp}(e:Same F f):∀{ps:List PV}{vs:List V},RepL K F ps vs->RepL K f ps vs
 |[],_,h=>h
 |x::xs,_,h=>by
  unfold RepL at h |-;obtain⟨v,r,h1,h2,j⟩:=h;exact⟨v,r,h1,Rep.mono e h2,RepL.mono e j⟩
end
def RepL.nil{K:aa}{F:Hp}:RepL K F [] []:=by rfl
def RepL.cons{K:aa}{F:Hp}(h:Rep K F p v)(t:RepL K F ps vs):RepL K F (p::ps) (v::vs):=by
 exact⟨v,vs,rfl,h,t⟩
theorem RepL.length{K:aa}{F:Hp}:∀{ps:List PV}{vs:List V},RepL K F ps vs->vs.length=ps.length
 |[],_,h=>by grind[RepL]
 |x::xs,_,h=>by
  obtain⟨v,r,rfl,_,f⟩:=h;simp[RepL.length f]
theorem RepL.get{K:aa}{F:Hp}:∀{ps:List PV}{vs:List V}{i:Nat}{p:PV},RepL K F ps vs->ps[i]?=some p->∃v,vs[i]?=some v/\Rep K F p v
 |[],_,_,_,_,e=>by simp at e
 |x::xs,_,i,p,h,e=>by
  obtain⟨v,r,rfl,h2,f⟩:=h;cases i with
  |zero=>simp at e;subst e;exact⟨v,rfl,h2⟩
  |succ i =>
   obtain⟨u,e1,e2⟩:=RepL.get f (by simpa using e);exact⟨u,by simpa using e1,e2⟩
def RepL.back{K:aa}{F:Hp}{i:Nat}(h:RepL K F ps vs)(e:vs[i]?=some v):∃p,ps[i]?=some p/\Rep K F p v:=by
 cases q:ps[i]? with
 |none =>
  have h1 :=jQ.mp q;have h2 :=(aw.mp e).1;rw[h.length]at h2;lia
 |some p =>
  obtain⟨u,e1,e2⟩:=h.get q;rw[e]at e1;cases e1;exact⟨p,rfl,e2⟩
theorem RepL.append{K:aa}{F:Hp}:∀{ps qs:List PV}{vs us:List V},RepL K F ps vs->RepL K F qs us->RepL K F (ps++qs) (vs++us)
 |[],_,_,_,h,t=>by subst h;exact t
 |x::xs,_,_,_,h,t=>by
  obtain⟨v,r,rfl,h2,f⟩:=h;exact .cons h2 (RepL.append f t)
def RepL.snoc{K:aa}{F:Hp}(h:RepL K F ps vs)(t:Rep K F p v):RepL K F (ps++[p]) (vs++[v]):=h.append (.cons t .nil)
theorem RepL.take{K:aa}{F:Hp}:∀{ps:List PV}{vs:List V} n,RepL K F ps vs->RepL K F (ps.take n) (vs.take n)
 |_,_,0,_=>by simpa using RepL.nil
 |[],_,n+1,h=>by grind[RepL]
 |x::xs,_,n+1,h=>by
  obtain⟨v,r,rfl,h2,f⟩:=h;exact .cons h2 (RepL.take n f)
theorem RepL.drop{K:aa}{F:Hp}:∀{ps:List PV}{vs:List V} n,RepL K F ps vs->RepL K F (ps.drop n) (vs.drop n)
 |_,_,0,h=>by simpa using h
 |[],_,n+1,h=>by subst h;exact .nil
 |x::xs,_,n+1,h=>by
  obtain⟨v,r,rfl,h2,f⟩:=h;simpa using RepL.drop n f
theorem RepL.set{K:aa}{F:Hp}:∀{ps:List PV}{vs:List V} i {p:PV} {v:V},RepL K F ps vs->Rep K F p v->RepL K F (ps.set i p) (vs.set i v)
 |[],_,_,_,_,h,_=>by subst h;exact .nil
 |x::xs,_,0,_,_,h,q=>by
  obtain⟨v,r,rfl,h2,f⟩:=h;exact .cons q f
 |x::xs,_,i+1,_,_,h,q=>by
  obtain⟨v,r,rfl,h2,f⟩:=h;exact .cons h2 (RepL.set i f q)
def RepL.reverse{K:aa}{F:Hp}(h:RepL K F ps vs):RepL K F ps.reverse vs.reverse:=by
 induction ps generalizing vs with
 |nil=>subst h;exact .nil
 |cons x xs f =>
  obtain⟨v,r,rfl,h2,j⟩:=h;rw[d0,d0];exact(f j).append (.cons h2 .nil)
end
structure Grow (F H F' H':Hp):Prop where
 ext:Same F F'
 sub:Same F' H'
 same:Same H H'
 new:∀a o,F' a=some o->F a=some o\/H a=none
def Grow.refl(h:Same F H):Grow F H F H:=⟨Same.refl _,h,Same.refl _,λ_ _ e=>.inl e⟩
def Grow.trans{F H f l B D:Hp}(a:Grow F H f l)(b:Grow f l B D):Grow F H B D :=
 ⟨a.ext.trans b.ext,b.sub,a.same.trans b.same,λc o e=>by
  rcases b.new c o e with z | z
  .exact a.new c o z
  .exact .inr (a.same.free z)⟩
def Grow.laid(h:Same F H)(n:H p=none):Grow F H (upd F p o) (upd H p o):=by
 have f:F p=none:=by
  cases q:F p with
  |none=>rfl
  |some u=>rw[h p u q]at n;cases n
 refine⟨λa u e=>?_,λa u e=>?_,λa u e=>?_,λa u e=>?_⟩
 .rw[Qh (Qg e f)];exact e
 .by_cases z:a=p
  .subst z;rw[Qf]at e |-;exact e
  .rw[Qh z]at e |-;exact h a u e
 .rw[Qh (Qg e n)];exact e
 .by_cases z:a=p
  .subst z;exact .inr n
  .rw[Qh z]at e;exact .inl e
def Grow.side(h:Same F H)(n:H p=none):Grow F H F (upd H p o):=by
 refine⟨Same.refl _,λa u e=>?_,λa u e=>?_,λa u e=>.inl e⟩
 .rw[Qh (Qg (h a u e) n)];exact h a u e
 .rw[Qh (Qg e n)];exact e
inductive mQ where
 |un | fz (p:PV) | ow (xs:List PV)
abbrev PEnv:=List mQ
def mQ.val:mQ->Option PV
 |.un=>none
 |.fz p=>some p
 |.ow xs=>some (.lst xs)
noncomputable def getV(f:PEnv)(i:Nat):Option PV:=(f[i]?).bind mQ.val
def ERep(K:aa)(F:Hp)(f:St)(l:PEnv)(ms:List Nat):Prop:=∀i∈ms,∀p,getV l i=some p->∃v,f[i]?=some (some v)/\Rep K F p v
def ERep.mono{K:aa}(h:ERep K F f l ms)(e:Same F B):ERep K B f l ms:=λi j p D=>by
 obtain⟨v,h1,h2⟩:=h i j p D;exact⟨v,h1,h2.mono e⟩
def ERep.left{K:aa}(h:ERep K F f l (ms++ns)):ERep K F f l ms:=λi j=>h i (by grind)
def ERep.right{K:aa}(h:ERep K F f l (ms++ns)):ERep K F f l ns:=λi j=>h i (aV _ j)
def Wv(K:aa)(F H:Hp)(r:PV)(Q:VK):Prop:=∀v f j,Grow F H j f->Rep K j r v->Q v f
def Wo(K:aa)(F H:Hp)(xs:List PV)(Q:VK):Prop:=∀a vs f j,Grow F H j f->H a=none->j a=none->f a=some (.lst vs)->RepL K j xs vs->Q (.ref a) f
def Wv.go{K:aa}(w:Wv K F H r Q)(g:Grow F H f l):Wv K f l r Q:=λv j B D=>w v j B (g.trans D)
def Wo.go{K:aa}(w:Wo K F H r Q)(g:Grow F H f l):Wo K f l r Q:=λa vs j B D n=>w a vs j B (g.trans D) (g.same.free n)
def Wv.of_lst{K:aa}(w:Wv K F H (.lst xs) Q):Wo K F H xs Q:=by
 intro a vs l f g n B e r;have j:Same f (upd f a (.lst vs)):=λb u q=>by rw[Qh (Qg q B)];exact q
 refine w (.ref a) l (upd f a (.lst vs)) ⟨g.ext.trans j,λb u q=>?_,g.same,λb u q=>?_⟩ ?_
 .by_cases z:b=a
  .grind[Qf]
  .rw[Qh z]at q;exact g.sub b u q
 .by_cases z:b=a
  .grind
  .rw[Qh z]at q;exact g.new b u q
 .exact⟨a,vs,rfl,.of Qf,r.mono j⟩
def Wv.here{K:aa}(w:Wv K F H r Q)(h:Same F H)(q:Rep K F r v):Q v H:=w v H F (.refl h) q
abbrev MEx:=PEnv->Option PV
inductive tM (K:aa) (ms:List Nat) (m:MEx) (σ:St) (H:Hp) (Q:VK):Prop
 |mk F γ r:Same F H->ERep K F σ γ ms->m γ=some r->Wv K F H r Q->tM K ms m σ H Q
inductive tMO (K:aa) (ms:List Nat) (m:PEnv->Option (List PV)) (σ:St) (H:Hp) (Q:VK):Prop
 |mk F γ r:Same F H->ERep K F σ γ ms->m γ=some r->Wo K F H r Q->tMO K ms m σ H Q
inductive tMT (K:aa) (ms:List Nat) (m:PEnv->Option Bool) (σ:St) (H:Hp) (Q:Bool->Hp->Prop):Prop
 |mk F γ r:Same F H->ERep K F σ γ ms->m γ=some r->(∀H' F',Grow F H F' H'->Q r H')->tMT K ms m σ H Q
inductive tMA (K:aa) (ms:List Nat) (m:PEnv->Option (List PV)) (σ:St) (H:Hp) (Q:List V->Hp->Prop):Prop
 |mk F γ r:Same F H->ERep K F σ γ ms->m γ=some r->(∀vs H' F',Grow F H F' H'->RepL K F' r vs->Q vs H')->tMA K ms m σ H Q
def EM(X:Cx)(ms:List Nat)(e:Expr)(m:MEx):Prop:=PE X e (tM X.K ms m)
def EO(X:Cx)(ms:List Nat)(e:Expr)(m:PEnv->Option (List PV)):Prop:=PE X e (tMO X.K ms m)
def TM(X:Cx)(ms:List Nat)(e:Expr)(m:PEnv->Option Bool):Prop:=PT X e (tMT X.K ms m)
def AM(X:Cx)(ms:List Nat)(f:List Expr)(m:PEnv->Option (List PV)):Prop:=PA X f (tMA X.K ms m)
section
def _root_.L2.PE.imp(h:PE X e t)(i:∀f H Q,t' f H Q->t f H Q):PE X e t':=λj s f H Q I q=>h j s f H Q I (i f H Q q)
def _root_.L2.PT.imp(h:PT X e t)(i:∀f H Q,t' f H Q->t f H Q):PT X e t':=λj s f H Q I q=>h j s f H Q I (i f H Q q)
def _root_.L2.PA.imp(h:PA X B t)(i:∀f H Q,t' f H Q->t f H Q):PA X B t':=λl j s f H Q I q=>h l j s f H Q I (i f H Q q)
def _root_.L2.PS.imp{st:Stmt}(h:PS X st t)(i:∀D f H,t' D f H->t D f H):PS X st t':=λj s f H D I q=>h j s f H D I (i D f H q)
noncomputable def mLst(m:PEnv->Option (List PV)):MEx:=λf=>(m f).map PV.lst
def EO.em{m:PEnv->Option (List PV)}(h:EO X ms e m):EM X ms e (mLst m):=PE.imp h λB H Q l=>by
 obtain⟨F,j,r,h1,h2,f,w⟩:=l;delta mLst at f;cases q:m j with
 |none=>grind
 |some xs =>
  rw[q]at f;cases f;exact⟨F,j,xs,h1,h2,q,w.of_lst⟩
noncomputable def mVar(i:Nat):MEx:=λf=>getV f i
noncomputable def mC(p:PV):MEx:=λ_=>some p
def em_var i (h:PE X (.Name x f) (tVar i)):EM X [i] (.Name x f) (mVar i):=PE.imp h λB H Q j=>by
 obtain⟨F,D,r,h1,h2,l,w⟩:=j;obtain⟨v,e1,e2⟩:=h2 i (by simp) r l;exact⟨v,e1,w.here h1 e2⟩
def em_int:EM X [] (.Constant (.int i) j f) (mC (.int i)):=PE.imp pe_int λD H Q l=>by
 obtain⟨F,E,r,h1,h2,B,w⟩:=l;cases B;exact w.here h1 (by rfl)
def em_bl:EM X [] (.Constant (.bool i) j f) (mC (.bl i)):=PE.imp pe_bl λD H Q l=>by
 obtain⟨F,E,r,h1,h2,B,w⟩:=l;cases B;exact w.here h1 (by rfl)
def em_non:EM X [] (.Constant .none j f) (mC .non):=PE.imp pe_non λD H Q l=>by
 obtain⟨F,E,r,h1,h2,B,w⟩:=l;cases B;exact w.here h1 (by rfl)
def em_str:EM X [] (.Constant (.str i) j f) (mC (.str i)):=PE.imp pe_str λD H Q l=>by
 obtain⟨F,E,r,h1,h2,B,w⟩:=l;cases B;exact w.here h1 (by rfl)
def rM2(K:aa)(f:PV->PV->Option PV):R2:=λx y H Q=>∃F p q r,Same F H/\Rep K F p x/\Rep K F q y/\f p q=some r/\Wv K F H r Q
def rM2O(K:aa)(f:PV->PV->Option (List PV)):R2:=λx y H Q=>∃F p q r,Same F H/\Rep K F p x/\Rep K F q y/\f p q=some r/\Wo K F H r Q
noncomputable def bin2(f:PV->PV->Option α)(l B:MEx):PEnv->Option α:=λj=>(l j).bind λx=>(B j).bind λy=>f x y
def QgP{K:aa}(h:tM K (ms++ns) (bin2 f I J) L H Q):tOp (rM2 K f) (tM K ms I) (tM K ns J) L H Q:=by
 obtain⟨F,j,r,h1,h2,l,w⟩:=h;delta bin2 at l;cases e1:I j with
 |none=>grind
 |some x =>
  cases e2:J j with
  |none=>grind
  |some y =>
   rw[e1,e2]at l;refine⟨F,j,x,h1,h2.left,e1,λU Y E B M=>⟨E,j,y,B.sub,h2.right.mono B.ext,e2,λvy H2 O D T=>?_⟩⟩;exact⟨O,x,y,r,D.sub,M.mono D.ext,T,l,w.go (B.trans D)⟩
def tOpO_of{K:aa}(h:tMO K (ms++ns) (bin2 f I J) L H Q):tOp (rM2O K f) (tM K ms I) (tM K ns J) L H Q:=by
 obtain⟨F,j,r,h1,h2,l,w⟩:=h;delta bin2 at l;cases e1:I j with
 |none=>grind
 |some x =>
  cases e2:J j with
  |none=>grind
  |some y =>
   rw[e1,e2]at l;refine⟨F,j,x,h1,h2.left,e1,λU Y E B M=>⟨E,j,y,B.sub,h2.right.mono B.ext,e2,λvy H2 O D T=>?_⟩⟩;exact⟨O,x,y,r,D.sub,M.mono D.ext,T,l,w.go (B.trans D)⟩
def OpM(X:Cx)(g:Value->Value->Sem Value)(f:PV->PV->Option PV):Prop:=OpR X g (rM2 X.K f)
def OpO(X:Cx)(g:Value->Value->Sem Value)(f:PV->PV->Option (List PV)):Prop:=OpR X g (rM2O X.K f)
def em_op(ho:OpM X (bV l) f)(B:EM X ms a D)(I:EM X ns b J):EM X (ms++ns) (.BinOp a l b L) (bin2 f D J) :=
 PE.imp (pe_op ho B I) λ_ _ _ h=>QgP h
def eo_op(ho:OpO X (bV l) f)(B:EM X ms a D)(I:EM X ns b J):EO X (ms++ns) (.BinOp a l b L) (bin2 f D J) :=
 PE.imp (pe_op ho B I) λ_ _ _ h=>tOpO_of h
def em_cmp(ho:OpM X (bI l) f)(B:EM X ms a D)(I:EM X ns b J)(hm:jk l b=false):EM X (ms++ns) (.Compare a [l] [b] L) (bin2 f D J) :=
 PE.imp (pe_cmpR ho B I hm) λ_ _ _ h=>QgP h
def em_ix(ho:IxR X (rM2 X.K f))(l:EM X ms a B)(D:EM X ns b I)(J:QlE b):EM X (ms++ns) (.Subscript a b L) (bin2 f B I) :=
 PE.imp (pe_ix ho l D J) λ_ _ _ h=>QgP h
noncomputable def isB:PV->Option Bool
 |.bl b=>some b
 |_=>none
noncomputable def truB(m:MEx):PEnv->Option Bool:=λf=>(m f).bind isB
def Qia{K:aa}(B:∀Q,tM K ms m l H Q->t l H Q)(h:tMT K ms (truB m) l H Q):tTest t l H Q:=by
 obtain⟨F,j,r,h1,h2,f,w⟩:=h;delta truB at f;cases e1:m j with
 |none=>rw[e1]at f;cases f
 |some x =>
  rw[e1]at f;cases x with
  |bl b =>
   obtain rfl:b=r:=br f;refine B _ ⟨F,j,.bl b,h1,h2,e1,λv D E g q=>?_⟩;exact⟨b,q,w D E g⟩
  |_=>cases f
def tm_cmp(ho:OpM X (bI l) f)(B:EM X ms a D)(I:EM X ns b J)(hm:jk l b=false):TM X (ms++ns) (.Compare a [l] [b] L) (truB (bin2 f D J)) :=
 PT.imp (pt_cmpR ho B I hm) λ_ _ _ h=>Qia (λ_=>QgP) h
end
noncomputable abbrev LIM:Nat:=1000000
theorem Qv:LIM<=aI:=by decide
def Qi[Decidable c](h:(if c then some a else none)=some r):c/\a=r:=by
 grind
section
noncomputable def iop(C:Int->Int->Bool)(g:Int->Int->PV):PV->PV->Option PV
 |.int i,.int j=>if C i j=true then some (g i j) else none
 |_,_=>none
set_option tactic.hygienic true in
def Qlf(h:iop C g p q=some r):∃i j,p = .int i/\q = .int j/\C i j=true/\r=g i j:=by
  cases p<;>cases q<;>first
    | (exfalso;cases h;done)
    | (rename_i i j
       obtain⟨c,e⟩:=Qi h;exact⟨i,j,rfl,rfl,c,e.symm⟩)
def QjT(ho:OpR X f (rI B D))(hc:∀i j,C i j=true->B i j)(J:∀i j K F,Rep K F (g i j) (D i j)):OpM X f (iop C g):=by
 intro l s E H x y v u Q I L M h;obtain⟨F,p,q,r,h1,h2,O,T,w⟩:=h;obtain⟨i,j,rfl,rfl,c,rfl⟩:=Qlf T;exact ho l s E H x y v u Q I L M ⟨i,j,h2,O,hc i j c,w.here h1 (J i j _ _)⟩
def Qbs(ho:OpR X f (rI0 B))(D:∀i j K F,Rep K F (g i j) (B i j)):OpM X f (iop (λ_ _=>true) g):=by
 intro l s E H x y v u Q I J L h;obtain⟨F,p,q,r,h1,h2,M,O,w⟩:=h;obtain⟨i,j,rfl,rfl,c,rfl⟩:=Qlf O;exact ho l s E H x y v u Q I J L ⟨i,j,h2,M,w.here h1 (D i j _ _)⟩
def Qp{K:aa} i:Rep K F (.int i) (.int i):=by rfl
def QB{K:aa} i:Rep K F (.bl i) (.bl i):=by rfl
def Qap{K:aa} i:Rep K F (.str i) (.str i):=by rfl
def Qgw{K:aa}:Rep K F .non .non:=by rfl
def pSub:=iop (λ_ _=>true) λi j=>.int (i-j)
def cls(p:Prop):Bool := @decide p (g7 p)
noncomputable def Qcr(h:cls p=true):p := @bC p (g7 p) h
def QeZ(h:p):cls p=true := @a8 p (g7 p) h
def cMul(i j:Int):Bool:=cls (-(2^64)<i/\i<2^64)||cls (-(2^64)<j/\j<2^64)
def cDiv(_ j:Int):Bool:=cls (0<j/\j<2^200)
def cPos(_ j:Int):Bool:=decide (0<j)
def cNn(_ j:Int):Bool:=decide (0<=j)
def cPow(i j:Int):Bool:=cls (0<=j/\j<=1000000/\i.natAbs<2^64)
def pMul:=iop cMul λi j=>.int (i*j)
def pDiv:=iop cDiv λi j=>.int (i/j)
def pMod:=iop cPos λi j=>.int (i%j)
def pShl:=iop cPow λi j=>.int (i*2^j.toNat)
def pShr:=iop cNn λi j=>.int (i/2^j.toNat)
def pAnd:=iop (λ_ _=>true) λi j=>.int (jc i j)
def pOr:=iop (λ_ _=>true) λi j=>.int (gl i j)
def pLt:=iop (λ_ _=>true) λi j=>.bl (decide (i<j))
def pLe:=iop (λ_ _=>true) λi j=>.bl (decide (i<=j))
def pGt:=iop (λ_ _=>true) λi j=>.bl (decide (j<i))
def pGe:=iop (λ_ _=>true) λi j=>.bl (decide (j<=i))
def om_sub:OpM X (bV .Sub) pSub:=Qbs op_sub λ_ _ _ _=>Qp _
def cMul_ok(h:cMul i j=true):CMul i j:=by
 delta cMul at h;rw[dR]at h;exact h.imp Qcr Qcr
def om_mul:OpM X (bV .Mult) pMul:=QjT op_mul (λ_ _ h=>cMul_ok h) λ_ _ _ _=>Qp _
def div_log{j:Int}(h0:0<j)(h:j<2^200):j.natAbs.log2<9000:=by
 have h1:j.natAbs<2^200:=by lia
 have h2 :=(kS (by lia)).mpr h1;lia
def op_fdivL:OpR X (bV .FloorDiv) (rI (λ_ j=>0<j/\j<2^200) λi j=>.int (i/j)):=opI λi j _ _ _ _ _ hc q=>by
 have h1 :=hc.1;exact floordiv_int (by lia) (by rw[jL i (by lia)];exact q) (.inl (PyProof.noPylong_of_log2 (div_log h1 hc.2)))
def om_div:OpM X (bV .FloorDiv) pDiv:=QjT op_fdivL (λ_ _ h=>Qcr h) λ_ _ _ _=>Qp _
def om_mod:OpM X (bV .Mod) pMod:=QjT op_mod (λ_ _ h=>bC h) λ_ _ _ _=>Qp _
def om_shl:OpM X (bV .LShift) pShl:=QjT op_shl (λi j h=>Qcr h) λ_ _ _ _=>Qp _
def om_shr:OpM X (bV .RShift) pShr:=QjT op_shr (λ_ _ h=>bC h) λ_ _ _ _=>Qp _
def om_and:OpM X (bV .BitAnd) pAnd:=Qbs op_and λ_ _ _ _=>Qp _
def om_or:OpM X (bV .BitOr) pOr:=Qbs op_or λ_ _ _ _=>Qp _
def om_ior:OpM X (jU .BitOr) pOr:=Qbs iop_or λ_ _ _ _=>Qp _
def om_lt:OpM X (bI .Lt) pLt:=Qbs op_lt λ_ _ _ _=>QB _
def om_le:OpM X (bI .LtE) pLe:=Qbs op_le λ_ _ _ _=>QB _
def om_gt:OpM X (bI .Gt) pGt:=Qbs op_gt λ_ _ _ _=>QB _
def om_ge:OpM X (bI .GtE) pGe:=Qbs op_ge λ_ _ _ _=>QB _
def op_catS:OpR X (bV .Add) (λx y H Q=>∃l b xs B,x = .ref l/\y = .ref b/\SqL X.K H l xs/\SqL X.K H b B/\xs.length+B.length<=aI/\∀p,H p=none->Q (.ref p) (upd H p (.lst (xs++B)))):=by
 intro L s σ H x y v u Q I T U h;obtain⟨l,b,xs,B,rfl,rfl,Y,hB,hz,q⟩:=h;cases T;cases U;obtain⟨j,r,⟨⟨cls,dd,data,sl⟩,n,e,c,_,d⟩,_⟩:=I.list Y;obtain⟨f,M,⟨⟨O,D,data2,E⟩,n2,e2,c2,_,d2⟩,_⟩:=I.list hB;subst c d c2 d2;have J:j.toArray.size+f.toArray.size<=aI:=by rw[aQ,aQ,<-r.length,<-M.length];exact hz
 have ea:j.toArray++f.toArray=(j++f).toArray:=by simp
 refine l9 ⟨_,e,rfl⟩ ⟨_,e2,rfl⟩ noFill_list_add seq_list_add PySem.F.slot_list_add PySem.F.entry_list_add (PySem.F.args_list_add_2 _ _)
  (list_addW l b j.toArray f.toArray n n2 dd D sl E J) ⟨e,e2,?_⟩
 rw[ea];exact⟨.ref _,_,I.lnew (r.append M) (by rw[aO];omega),rfl,q _ I.fresh⟩
def pCat:PV->PV->Option (List PV)
 |.lst a,.lst b=>if a.length+b.length<=LIM then some (a++b) else none
 |_,_=>none
def oo_cat{X:Cx}:OpO X (bV .Add) pCat:=by
 intro f s D H x y v u Q I E J h;obtain⟨F,p,q,r,h1,h2,L,l,w⟩:=h;cases p<;>cases q<;>first
  | (exfalso;cases l;done)
  |skip
 obtain⟨c,rfl⟩:=Qi l;obtain⟨a,vs,rfl,sa,B⟩:=h2;obtain⟨b,us,rfl,sb,rb⟩:=L;refine op_catS f s D H _ _ v u Q I E J ⟨a,b,vs,us,rfl,rfl,h1.seq sa,h1.seq sb,by rw[B.length,rb.length];grind[Qv],λp j=>?_⟩;have M :=h1.free j;exact w p _ _ F (.side h1 j) j M Qf (B.append rb)
def pAdd:PV->PV->Option PV
 |.int i,.int j=>some (.int (i+j))
 |.str a,.str b=>if a.length+b.length<=LIM then some (.str (a++b)) else none
 |_,_=>none
def om_add:OpM X (bV .Add) pAdd:=by
 intro f s l H x y v u Q I B D h;obtain⟨F,p,q,r,h1,h2,E,j,w⟩:=h;cases p<;>cases q<;>first
  | (exfalso;cases j;done)
  |skip
 .cases j;exact op_add f s l H x y v u Q I B D ⟨_,_,h2,E,w.here h1 (Qp _)⟩
 .obtain⟨c,rfl⟩:=Qi j;exact Qji f s l H x y v u Q I B D ⟨_,_,h2,E,aS c Qv,w.here h1 (Qap _)⟩
end
mutual
def peq:PV->PV->Bool
 |.non,.non=>true
 |.bl a,.bl b=>a==b
 |.bl a,.int b=>(if a then 1 else 0)==b
 |.int a,.bl b=>a==(if b then 1 else 0)
 |.int a,.int b=>a==b
 |.str a,.str b=>a==b
 |.tup xs,.tup ys=>peqL xs ys
 |.lst xs,.lst ys=>peqL xs ys
 |.obj C ks ps,.obj D ls qs=>(C==D&&ks==ls)&&peqL ps qs
 |.opq a,.opq b=>a==b
 |_,_=>false
def peqL:List PV->List PV->Bool
 |[],[]=>true
 |x::xs,y::ys=>peq x y&&peqL xs ys
 |_,_=>false
end
mutual
def dep:PV->Nat
 |.tup xs=>depL xs+1
 |.lst xs=>depL xs+1
 |.obj _ _ _=>1000
 |.opq _=>1000
 |_=>0
def depL:List PV->Nat
 |[]=>0
 |x::xs=>max (dep x) (depL xs)
end
theorem QaO:∀{xs:List PV}{j:Nat}{p:PV},xs[j]?=some p->dep p<=depL xs
 |[],_,_,e=>by simp at e
 |x::xs,0,p,e=>by
  simp at e;subst e;exact Nat.le_max_left _ _
 |x::xs,j+1,p,e=>by
  have:=QaO (by simpa using e);exact aS this (Nat.le_max_right _ _)
mutual
theorem QbZ:∀p:PV,peq p p=true
 |.non=>rfl
 |.bl a=>by show(a==a)=true;simp
 |.int a=>by show(a==a)=true;simp
 |.str a=>by show(a==a)=true;simp
 |.tup xs=>YT xs
 |.lst xs=>YT xs
 |.obj C ks ps=>by show((C==C&&ks==ks)&&peqL ps ps)=true;rw[YT ps];simp
 |.opq a=>by show(a==a)=true;simp
theorem YT:∀xs:List PV,peqL xs xs=true
 |[]=>by first | rfl | simp[peqL]
 |x::xs=>by
  first | rw[show peqL (x::xs) (y::ys)=(peq x y&&peqL xs ys) from rfl] | rw[show peqL (x::xs) (x::xs)=(peq x x&&peqL xs xs) from rfl]
  rw[QbZ x,YT xs];rfl
end
def eAt(xs ys:List PV)(j:Nat):Bool:=match xs[j]?,ys[j]? with
 |some p,some q=>peq p q
 |_,_=>true
def Qdn n e:(ao (n+1)).all e=(e 0&&(ao n).all λj=>e (j+1)):=by
 rw[kq,fL,dM];rfl
theorem Qag:∀xs ys,((ao (min xs.length ys.length)).all (eAt xs ys)&&(xs.length==ys.length))=peqL xs ys
 |[],[]=>by first | rfl | simp[peqL]
 |[],y::ys=>by first | rfl | simp[peqL]
 |x::xs,[]=>by first | rfl | simp[peqL]
 |x::xs,y::ys=>by
  have f:=Qag xs ys;first | rw[show peqL (x::xs) (y::ys)=(peq x y&&peqL xs ys) from rfl] | rw[rfl]
  rw[<-f];have e1:min (x::xs).length (y::ys).length=min xs.length ys.length+1:=by
   simp only[aG];lia
  rw[e1,Qdn];have e2:eAt (x::xs) (y::ys) 0=peq x y:=by simp[eAt]
  have e3:(λj=>eAt (x::xs) (y::ys) (j+1))=eAt xs ys:=by
   funext j;simp[eAt]
  have l:((x::xs).length==(y::ys).length)=(xs.length==ys.length):=by
   simp
  rw[e2,e3,l,Bool.and_assoc]
section
mutual
theorem Rep.inj(I:Inv X J L H s)(l:Same F H):∀{p q:PV}{v:V},dep p<1000->dep q<1000->Rep X.K F p v->Rep X.K F q v->p=q
 |.non,q,v,_,f,h,k=>by
  delta Rep at h;subst h;cases q<;>delta Rep at k<;>first | rfl | (cases k;done) | (obtain⟨_,_,k,_⟩:=k;cases k;done) | (obtain⟨_,_,_,k,_⟩:=k;cases k;done)
 |.bl b,q,v,_,f,h,k=>by
  delta Rep at h;subst h;cases q<;>delta Rep at k<;>first | (cases k;done) | (cases k;rfl) | (obtain⟨_,_,k,_⟩:=k;cases k;done) | (obtain⟨_,_,_,k,_⟩:=k;cases k;done)
 |.int b,q,v,_,f,h,k=>by
  delta Rep at h;subst h;cases q<;>delta Rep at k<;>first | (cases k;done) | (cases k;rfl) | (obtain⟨_,_,k,_⟩:=k;cases k;done) | (obtain⟨_,_,_,k,_⟩:=k;cases k;done)
 |.str b,q,v,_,f,h,k=>by
  delta Rep at h;subst h;cases q<;>delta Rep at k<;>first | (cases k;done) | (cases k;rfl) | (obtain⟨_,_,k,_⟩:=k;cases k;done) | (obtain⟨_,_,_,k,_⟩:=k;cases k;done)
 |.tup xs,q,v,dp,f,h,k=>by
  unfold Rep at h;obtain⟨a,vs,rfl,h2,B⟩:=h;cases q with
  |tup ys =>
   unfold Rep at k;obtain⟨b,us,e,k2,k3⟩:=k;cases e;have e:=I.tuple_inj (l.seqT h2) (l.seqT k2);subst e;unfold dep at dp f;rw[RepL.inj I l (by omega) (by omega) B k3]
  |lst ys =>
   delta Rep at k;obtain⟨b,us,e,k2,k3⟩:=k;cases e;obtain⟨D,_,p1,_⟩:=I.tuple (l.seqT h2);obtain⟨j,_,p2,_⟩:=I.list (l.seq k2);exact absurd rfl (jt p2.isList p1)
  |obj C ks ps=>unfold dep at f;omega
  |opq b=>unfold dep at f;omega
  |_=>delta Rep at k;cases k
 |.lst xs,q,v,dp,f,h,k=>by
  unfold Rep at h;obtain⟨a,vs,rfl,h2,B⟩:=h;cases q with
  |lst ys =>
   unfold Rep at k;obtain⟨b,us,e,k2,k3⟩:=k;cases e;have e:=I.list_inj (l.seq h2) (l.seq k2);subst e;unfold dep at dp f;rw[RepL.inj I l (by omega) (by omega) B k3]
  |tup ys =>
   delta Rep at k;obtain⟨b,us,e,k2,k3⟩:=k;cases e;obtain⟨D,_,p1,_⟩:=I.list (l.seq h2);obtain⟨j,_,p2,_⟩:=I.tuple (l.seqT k2);exact absurd rfl (jt p1.isList p2)
  |obj C ks ps=>unfold dep at f;omega
  |opq b=>unfold dep at f;omega
  |_=>delta Rep at k;cases k
 |.obj C ks ps,q,v,dp,f,h,k=>by unfold dep at dp;omega
 |.opq a,q,v,dp,f,h,k=>by unfold dep at dp;omega
theorem RepL.inj(I:Inv X f D H s)(l:Same F H):∀{ps qs:List PV}{vs:List V},depL ps<1000->depL qs<1000->RepL X.K F ps vs->RepL X.K F qs vs->ps=qs
 |[],qs,vs,dp,j,h,k=>by
  delta RepL at h;subst h;cases qs with
  |nil=>rfl
  |cons q qs=>delta RepL at k;obtain⟨_,_,k,_⟩:=k;cases k
 |p::ps,qs,vs,dp,j,h,k=>by
  unfold RepL at h;obtain⟨v,r,rfl,h2,B⟩:=h;cases qs with
  |nil=>unfold RepL at k;cases k
  |cons q qs =>
   unfold RepL at k;obtain⟨E,J,e,k2,k3⟩:=k;cases e;unfold depL at dp j;rw[Rep.inj I l (by omega) (by omega) h2 k2,RepL.inj I l (by omega) (by omega) B k3]
end
def eqAt_rep{X:Cx}{F:Hp}(I:Inv X bZ σ H s)(L:Same F H):∀(n:Nat)(A:dm)(p q:PV)(v u:V)(x y:Value),dep p<=n->n<=900->dep q<1000->A.units+n<iL->Rep X.K F p v->Rep X.K F q u->RelV v x->RelV u y->kO A s x y (peq p q):=by
 intro n;induction n with
 |zero =>
  intro A p q v u x y hd hn B hu M f U l;cases p with
  |tup xs=>unfold dep at hd;lia
  |lst xs=>unfold dep at hd;lia
  |obj C ks ps=>unfold dep at hd;lia
  |opq b=>unfold dep at hd;lia
  |non =>
   delta Rep at M;subst M;cases U;cases q with
   |obj D ls qs=>unfold dep at B;lia
   |opq b=>unfold dep at B;lia
   |non=>delta Rep at f;subst f;cases l;exact kf _
   |bl b=>delta Rep at f;subst f;cases l;exact kO.none_bool b
   |int b=>delta Rep at f;subst f;obtain⟨t,rfl⟩:=l;exact kO.none_int b t
   |str b=>delta Rep at f;subst f;obtain⟨t,rfl⟩:=l;exact kO.none_str b t
   |tup ys =>
    delta Rep at f;obtain⟨b,us,rfl,k2,k3⟩:=f;cases l;obtain⟨E,_,p1,_⟩:=I.tuple (L.seqT k2);exact kO.none_tuple p1 (by lia)
   |lst ys =>
    delta Rep at f;obtain⟨b,us,rfl,k2,k3⟩:=f;cases l;obtain⟨E,_,p1,_⟩:=I.list (L.seq k2);exact kO.none_list p1.isList (by lia)
  |bl a =>
   delta Rep at M;subst M;cases U;cases q with
   |obj D ls qs=>unfold dep at B;lia
   |opq b=>unfold dep at B;lia
   |non=>delta Rep at f;subst f;cases l;exact kO.bool_none a
   |bl b=>delta Rep at f;subst f;cases l;exact kO.bool_bool a b
   |int b=>delta Rep at f;subst f;obtain⟨t,rfl⟩:=l;exact kO.bool_int a b t
   |str b=>delta Rep at f;subst f;obtain⟨t,rfl⟩:=l;exact kO.bool_str a b t
   |tup ys =>
    delta Rep at f;obtain⟨b,us,rfl,k2,k3⟩:=f;cases l;obtain⟨E,_,p1,_⟩:=I.tuple (L.seqT k2);exact kO.bool_tuple a p1 (by lia)
   |lst ys =>
    delta Rep at f;obtain⟨b,us,rfl,k2,k3⟩:=f;cases l;obtain⟨E,_,p1,_⟩:=I.list (L.seq k2);exact kO.bool_list a p1.isList (by lia)
  |int a =>
   delta Rep at M;subst M;obtain⟨t',rfl⟩:=U;cases q with
   |obj D ls qs=>unfold dep at B;lia
   |opq b=>unfold dep at B;lia
   |non=>delta Rep at f;subst f;cases l;exact kO.int_none a t'
   |bl b=>delta Rep at f;subst f;cases l;exact kO.int_bool a t' b
   |int b=>delta Rep at f;subst f;obtain⟨t,rfl⟩:=l;exact kO.int_int a t' b t
   |str b=>delta Rep at f;subst f;obtain⟨t,rfl⟩:=l;exact kO.int_str a t' b t
   |tup ys =>
    delta Rep at f;obtain⟨b,us,rfl,k2,k3⟩:=f;cases l;obtain⟨E,_,p1,_⟩:=I.tuple (L.seqT k2);exact kO.int_tuple a t' p1 (by lia)
   |lst ys =>
    delta Rep at f;obtain⟨b,us,rfl,k2,k3⟩:=f;cases l;obtain⟨E,_,p1,_⟩:=I.list (L.seq k2);exact kO.int_list a t' p1.isList (by lia)
  |str a =>
   delta Rep at M;subst M;obtain⟨t',rfl⟩:=U;cases q with
   |obj D ls qs=>unfold dep at B;lia
   |opq b=>unfold dep at B;lia
   |non=>delta Rep at f;subst f;cases l;exact kO.str_none a t'
   |bl b=>delta Rep at f;subst f;cases l;exact kO.str_bool a t' b
   |int b=>delta Rep at f;subst f;obtain⟨t,rfl⟩:=l;exact kO.str_int a t' b t
   |str b=>delta Rep at f;subst f;obtain⟨t,rfl⟩:=l;exact kO.str_str a t' b t
   |tup ys =>
    unfold Rep at f;obtain⟨b,us,rfl,k2,k3⟩:=f;cases l;obtain⟨E,_,p1,_⟩:=I.tuple (L.seqT k2);exact kO.str_tuple a t' p1 (by lia)
   |lst ys =>
    unfold Rep at f;obtain⟨b,us,rfl,k2,k3⟩:=f;cases l;obtain⟨E,_,p1,_⟩:=I.list (L.seq k2);exact kO.str_list a t' p1.isList (by lia)
 |succ n ih =>
  intro A p q v u x y hd hn B hu M f U l;by_cases bJ:dep p<=n
  .exact ih A p q v u x y bJ (by lia) B (by lia) M f U l
  .have O:A.units<iL:=by lia
   cases p with
   |tup xs =>
    unfold Rep at M;obtain⟨a,vs,rfl,h2,Y⟩:=M;cases U;have av:depL xs<=n:=by unfold dep at hd;lia
    obtain⟨E,rv,p1,z1⟩:=I.tuple (L.seqT h2);cases q with
    |obj D ls qs=>unfold dep at B;lia
    |opq b=>unfold dep at B;lia
    |non=>unfold Rep at f;subst f;cases l;exact kO.tuple_none p1 O
    |bl b=>unfold Rep at f;subst f;cases l;exact kO.tuple_bool b p1 O
    |int b=>unfold Rep at f;subst f;obtain⟨t,rfl⟩:=l;exact kO.tuple_int b t p1 O
    |str b=>unfold Rep at f;subst f;obtain⟨t,rfl⟩:=l;exact kO.tuple_str b t p1 O
    |lst ys =>
     unfold Rep at f;obtain⟨b,us,rfl,k2,k3⟩:=f;cases l;obtain⟨J,_,p2,_⟩:=I.list (L.seq k2);exact kO.tuple_list p1 p2.isList O
    |tup ys =>
     unfold Rep at f;obtain⟨b,us,rfl,k2,k3⟩:=f;cases l;obtain⟨J,ru,p2,z2⟩:=I.tuple (L.seqT k2);change kO _ _ _ _ (peqL xs ys);by_cases T:a=b
     .subst T;have e:=I.tuple_inj (L.seqT h2) (L.seqT k2);subst e;rw[RepL.inj I L (by lia) (by unfold dep at B;lia) Y k3,YT];exact kf _
     .have l1:E.toArray.size=xs.length:=by rw[aQ,<-rv.length,Y.length]
      have l2:J.toArray.size=ys.length:=by rw[aQ,<-ru.length,k3.length]
      have key:=SeqAt.RcAt.tuples (A:=A) (s:=s) (e:=eAt xs ys) p1 p2 O λj j1 j2=>?_
      .rw[l1,l2,Qag]at key;exact jq T key
      .have az:j<xs.length:=by rw[<-l1];exact j1
       have aq:j<ys.length:=by rw[<-l2];exact j2
       have e1:xs[j]?=some xs[j]:=by simp[az]
       have e2:ys[j]?=some ys[j]:=by simp[aq]
       obtain⟨v1,aj,ak⟩:=Y.get e1;obtain⟨v2,aJ,aZ⟩:=k3.get e2;obtain⟨w1,bv,bz⟩:=rv.get aj;obtain⟨w2,bq,bj⟩:=ru.get aJ;have q1:E.toArray[j]=w1:=by simpa using (aw.mp bv).2
       have q2:J.toArray[j]=w2:=by simpa using (aw.mp bq).2
       have e3:eAt xs ys j=peq xs[j] ys[j]:=by unfold eAt;rw[e1,e2]
       rw[q1,q2,e3];exact ih A.in1 _ _ v1 v2 w1 w2 (aS (QaO e1) av) (by lia) (by have:=QaO e2;unfold dep at B;lia) (by show A.units+1+n<iL;lia) ak aZ bz bj
   |lst xs =>
    unfold Rep at M;obtain⟨a,vs,rfl,h2,Y⟩:=M;cases U;have av:depL xs<=n:=by unfold dep at hd;lia
    obtain⟨E,rv,p1,z1⟩:=I.list (L.seq h2);cases q with
    |obj D ls qs=>unfold dep at B;lia
    |opq b=>unfold dep at B;lia
    |non=>unfold Rep at f;subst f;cases l;exact kO.list_none p1.isList O
    |bl b=>unfold Rep at f;subst f;cases l;exact kO.list_bool b p1.isList O
    |int b=>unfold Rep at f;subst f;obtain⟨t,rfl⟩:=l;exact kO.list_int b t p1.isList O
    |str b=>unfold Rep at f;subst f;obtain⟨t,rfl⟩:=l;exact kO.list_str b t p1.isList O
    |tup ys =>
     unfold Rep at f;obtain⟨b,us,rfl,k2,k3⟩:=f;cases l;obtain⟨J,_,p2,_⟩:=I.tuple (L.seqT k2);exact kO.list_tuple p1.isList p2 O
    |lst ys =>
     unfold Rep at f;obtain⟨b,us,rfl,k2,k3⟩:=f;cases l;obtain⟨J,ru,p2,z2⟩:=I.list (L.seq k2);change kO _ _ _ _ (peqL xs ys);by_cases T:a=b
     .subst T;have e:=I.list_inj (L.seq h2) (L.seq k2);subst e;rw[RepL.inj I L (by lia) (by unfold dep at B;lia) Y k3,YT];exact kf _
     .have l1:E.toArray.size=xs.length:=by rw[aQ,<-rv.length,Y.length]
      have l2:J.toArray.size=ys.length:=by rw[aQ,<-ru.length,k3.length]
      by_cases hl:xs.length=ys.length
      .have key:=SeqAt.RcAt.lists (A:=A) (s:=s) (e:=eAt xs ys) p1.isList p2.isList (by rw[l1,l2,hl]) O λj j1 j2=>?_
       .have e5:=Qag xs ys;rw[<-hl,Nat.min_self,beq_self_eq_true,Bool.and_true]at e5;rw[l1,e5]at key;exact jq T key
       .have az:j<xs.length:=by rw[<-l1];exact j1
        have aq:j<ys.length:=by rw[<-l2];exact j2
        have e1:xs[j]?=some xs[j]:=by simp[az]
        have e2:ys[j]?=some ys[j]:=by simp[aq]
        obtain⟨v1,aj,ak⟩:=Y.get e1;obtain⟨v2,aJ,aZ⟩:=k3.get e2;obtain⟨w1,bv,bz⟩:=rv.get aj;obtain⟨w2,bq,bj⟩:=ru.get aJ;have q1:E.toArray[j]=w1:=by simpa using (aw.mp bv).2
        have q2:J.toArray[j]=w2:=by simpa using (aw.mp bq).2
        have e3:eAt xs ys j=peq xs[j] ys[j]:=by delta eAt;rw[e1,e2]
        rw[q1,q2,e3];exact ih A.in1 _ _ v1 v2 w1 w2 (aS (QaO e1) av) (by lia) (by have:=QaO e2;unfold dep at B;lia) (by show A.units+1+n<iL;lia) ak aZ bz bj
      .have e5:=Qag xs ys;rw[(aW (a:=xs.length) (b:=ys.length)).mpr hl,jN]at e5;rw[<-e5];exact jq T (SeqAt.RcAt.lists_lengths p1.isList p2.isList (by rw[l1,l2];simpa using hl) O)
   |obj C ks ps=>unfold dep at hd;lia
   |opq b=>unfold dep at hd;lia
   |_=>unfold dep at bJ;lia
mutual
def toD:PV->PyData
 |.non=>.none
 |.bl b=>.bool b
 |.int i=>.int i
 |.str x=>.str x
 |.tup xs=>.tuple (toDL xs)
 |.lst xs=>.list (toDL xs)
 |.obj _ _ _=>.none
 |.opq _=>.none
def toDL:List PV->List PyData
 |[]=>[]
 |x::xs=>toD x::toDL xs
end
mutual
def okS:PV->Bool
 |.str x=>ar x
 |.tup xs=>okSL xs
 |.lst xs=>okSL xs
 |_=>true
def okSL:List PV->Bool
 |[]=>true
 |x::xs=>okS x&&okSL xs
end
def okv(p:PV):Bool:=decide (dep p<=50)&&okS p
mutual
theorem QdL:∀p:PV,okS p=true->(toD p).canLay0=true
 |.non,_=>by simp[toD,eD]
 |.bl _,_=>by simp[toD,eD]
 |.int _,_=>by simp[toD,eD]
 |.str x,h=>by simpa[toD,eD,okS] using h
 |.tup xs,h=>by
  unfold toD eD;exact QaD xs (by simpa[okS] using h)
 |.lst xs,h=>by
  unfold toD eD;exact QaD xs (by simpa[okS] using h)
 |.obj _ _ _,_=>by simp[toD,eD]
 |.opq _,_=>by simp[toD,eD]
theorem QaD:∀xs:List PV,okSL xs=true->jG (toDL xs)=true
 |[],_=>by simp[toDL,jG]
 |x::xs,h=>by
  unfold okSL at h;rw[aN]at h;unfold toDL jG;rw[QdL x h.1,QaD xs h.2];rfl
end
mutual
theorem QfJ:∀p:PV,(toD p).depth<=dep p+1
 |.non=>by simp[toD,fk]
 |.bl _=>by simp[toD,fk]
 |.int _=>by simp[toD,fk]
 |.str x=>by simp[toD,fk]
 |.tup xs=>by
  have:=QbC xs;simp only[toD,fk,dep];omega
 |.lst xs=>by
  have:=QbC xs;simp only[toD,fk,dep];omega
 |.obj _ _ _=>by simp[toD,fk]
 |.opq _=>by simp[toD,fk]
theorem QbC:∀xs:List PV,kj (toDL xs)<=depL xs+1
 |[]=>by simp[toDL,kj]
 |x::xs=>by
  have h1:=QfJ x;have h2:=QbC xs;simp only[toDL,kj,depL];omega
end
def Qab(h:okv p=true):SeqAt.shaped (toD p)=true:=by
 delta okv at h;rw[aN,dP]at h;have h1:=QfJ p;delta SeqAt.shaped;rw[QdL p h.2,gL,dP];lia
mutual
theorem QgJ:∀p q:PV,dep p<1000->dep q<1000->PyData.eqv (toD p) (toD q)=peq p q
 |.non,q,_,f=>by cases q<;>first | (rfl;done) | (exfalso;unfold dep at f;omega)
 |.bl _,q,_,f=>by cases q<;>first | (rfl;done) | (exfalso;delta dep at f;omega)
 |.int _,q,_,f=>by cases q<;>first | (rfl;done) | (exfalso;delta dep at f;omega)
 |.str _,q,_,f=>by cases q<;>first | (rfl;done) | (exfalso;delta dep at f;omega)
 |.tup xs,q,j,f=>by
  cases q with
  |tup ys=>exact Qep xs ys (by unfold dep at j;omega) (by unfold dep at f;omega)
  |obj=>exfalso;unfold dep at f;omega
  |opq=>exfalso;unfold dep at f;omega
  |_=>rfl
 |.lst xs,q,j,f=>by
  cases q with
  |lst ys=>exact Qep xs ys (by unfold dep at j;omega) (by unfold dep at f;omega)
  |obj=>exfalso;unfold dep at f;omega
  |opq=>exfalso;unfold dep at f;omega
  |_=>rfl
 |.obj _ _ _,q,j,_=>by exfalso;unfold dep at j;omega
 |.opq _,q,j,_=>by exfalso;unfold dep at j;omega
theorem Qep:∀xs ys:List PV,depL xs<1000->depL ys<1000->PyData.eqvAll (toDL xs) (toDL ys)=peqL xs ys
 |[],[],_,_=>rfl
 |[],_::_,_,_=>rfl
 |_::_,[],_,_=>rfl
 |x::xs,y::ys,h1,h2=>by
  show(PyData.eqv (toD x) (toD y)&&PyData.eqvAll (toDL xs) (toDL ys))=(peq x y&&peqL xs ys);unfold depL at h1 h2;rw[QgJ x y (by omega) (by omega),Qep xs ys (by omega) (by omega)]
end
mutual
theorem Rep.reads(I:Inv X J L H s)(l:Same F H):∀{p:PV}{v:V}{u:Value},dep p<1000->Rep X.K F p v->RelV v u->∃as,Reads s.heap u (toD p) as
 |.non,v,u,_,h,r=>by delta Rep at h;subst h;cases r;exact⟨_,by delta toD;exact .none⟩
 |.bl b,v,u,_,h,r=>by delta Rep at h;subst h;cases r;exact⟨_,by delta toD;exact .bool b⟩
 |.int b,v,u,_,h,r=>by delta Rep at h;subst h;obtain⟨t,rfl⟩:=r;exact⟨_,by delta toD;exact .int b t⟩
 |.str b,v,u,_,h,r=>by delta Rep at h;subst h;obtain⟨t,rfl⟩:=r;exact⟨_,by delta toD;exact .str b t⟩
 |.tup xs,v,u,f,h,r=>by
  unfold Rep at h;obtain⟨a,vs,rfl,h2,j⟩:=h;cases r;obtain⟨B,D,⟨o,ho,hc,n,hd⟩,_⟩:=I.tuple (l.seqT h2);obtain⟨as,E⟩:=RepL.reads I l (by unfold dep at f;omega) j D;unfold toD;exact⟨_,.tuple ho hc hd (by simpa using E)⟩
 |.lst xs,v,u,f,h,r=>by
  unfold Rep at h;obtain⟨a,vs,rfl,h2,j⟩:=h;cases r;obtain⟨B,D,⟨o,n,ho,hc,_,hd⟩,_⟩:=I.list (l.seq h2);obtain⟨as,E⟩:=RepL.reads I l (by unfold dep at f;omega) j D;unfold toD;exact⟨_,.list ho hc hd (by simpa using E)⟩
 |.obj _ _ _,v,u,f,_,_=>by exfalso;unfold dep at f;omega
 |.opq _,v,u,f,_,_=>by exfalso;unfold dep at f;omega
theorem RepL.reads(I:Inv X l M H s)(B:Same F H):∀{ps:List PV}{vs:List V}{us:List Value},depL ps<1000->RepL X.K F ps vs->Vals vs us->∃as,ReadsAll s.heap us (toDL ps) as
 |[],vs,us,_,h,r=>by
  delta RepL at h;subst h;cases r;exact⟨[],by delta toDL;exact .nil⟩
 |p::ps,vs,us,f,h,r=>by
  unfold depL at f;unfold RepL at h;obtain⟨v,t,rfl,h2,j⟩:=h;cases r with
  |cons D E =>
   obtain⟨O,J⟩:=Rep.reads I B (by omega) h2 D;obtain⟨T,L⟩:=RepL.reads I B (by omega) j E;unfold toDL;exact⟨_,.cons J L⟩
end
def Qaw(h:okv p=true):dep p<1000:=by
 grind[okv]
def pEq(p q:PV):Option PV:=if okv p=true/\okv q=true then some (.bl (peq p q)) else none
def pNe(p q:PV):Option PV:=if okv p=true/\okv q=true then some (.bl (!peq p q)) else none
def om_eq(B:X.A.units+64<iL):OpM X (bI .Eq) pEq:=by
 intro l s O H x y v u Q I D E h;obtain⟨F,p,q,r,h1,h2,J,L,w⟩:=h;obtain⟨⟨f,j⟩,rfl⟩:=Qi L;obtain⟨as,M⟩:=Rep.reads I h1 (Qaw f) h2 D;obtain⟨bs,rb⟩:=Rep.reads I h1 (Qaw j) J E;refine eq_dataH M rb (Qab f) (Qab j) B ?_;rw[QgJ _ _ (Qaw f) (Qaw j)];exact⟨.bl _,H,I,rfl,w.here h1 (QB _)⟩
def om_ne(B:X.A.units+64<iL):OpM X (bI .NotEq) pNe:=by
 intro l s O H x y v u Q I D E h;obtain⟨F,p,q,r,h1,h2,J,L,w⟩:=h;obtain⟨⟨f,j⟩,rfl⟩:=Qi L;obtain⟨as,M⟩:=Rep.reads I h1 (Qaw f) h2 D;obtain⟨bs,rb⟩:=Rep.reads I h1 (Qaw j) J E;refine ne_dataH M rb (Qab f) (Qab j) B ?_;rw[QgJ _ _ (Qaw f) (Qaw j)];exact⟨.bl _,H,I,rfl,w.here h1 (QB _)⟩
end
section
theorem QlA:∀{l:List Value}{xs:List PV} f,l.length=xs.length->∀g ,(∀(j:Nat) u p,l[j]?=some u->xs[j]?=some p->g u=f p)->l.any g=xs.any f
 |[],[],_,_,_,_=>rfl
 |[],_::_,_,h,_,_=>by simp at h
 |_::_,[],_,h,_,_=>by simp at h
 |u::us,p::ps,f,h,g,k=>by
  rw[List.any_cons,List.any_cons,k 0 u p rfl rfl,QlA f (by simpa using h) g λj u p h1 h2=>k (j+1) u p (by simpa using h1) (by simpa using h2)]
open Classical in
def gOf(f:List Value)(xs:List PV)(x:PV)(u:Value):Bool:=if h:∃(j:Nat)(p:PV),f[j]?=some u/\xs[j]?=some p then peq (mm (fH h)) x else false
def pIn:PV->PV->Option PV
 |x,.lst xs=>if okv x=true/\xs.all okv=true then some (.bl (xs.any λy=>peq y x)) else none
 |x,.tup xs=>if okv x=true/\xs.all okv=true then some (.bl (xs.any λy=>peq y x)) else none
 |_,_=>none
def ZR(x y:PV):Option PV:=(pIn x y).bind λr=>match r with
 |.bl b=>some (.bl (!b))
 |_=>none
def okv_dep(h:okv p=true):dep p<=50:=by
 delta okv at h;rw[aN,dP]at h;exact h.1
def QgX(I:Inv X T σ H s)(U:Same F H)(hu:A.units+60<iL)(ok:xs.all okv=true)(J:okv x=true)(hx:Rep X.K F x Y)(rx:RelV Y xu)(l:RepL X.K F xs vs)(D:Vals vs f) :
  (∀u∈f,kO A s u xu (gOf f xs x u))/\f.any (gOf f xs x)=xs.any λy=>peq y x:=by
 have len:f.length=xs.length:=by rw[<-D.length,l.length]
 have inj:∀j k u p q,f[j]?=some u->xs[j]?=some p->f[k]?=some u->xs[k]?=some q->p=q:=λj k u p q h1 h2 h3 h4=>by
  obtain⟨v1,e1,L⟩:=l.get h2;obtain⟨v2,e2,r2⟩:=l.get h4;obtain⟨w1,E,t1⟩:=D.get e1;obtain⟨w2,f2,t2⟩:=D.get e2;rw[h1]at E;rw[h3]at f2;cases E;cases f2;have ev:=t1.inj t2;subst ev;have hd:∀j p,xs[j]?=some p->dep p<1000:=λj p h=>by
   have z:=bf.mp ok p (bT h);unfold okv at z;rw[aN,dP]at z;lia
  exact Rep.inj I U (hd _ _ h2) (hd _ _ h4) L r2
 have val:∀j u p,f[j]?=some u->xs[j]?=some p->gOf f xs x u=peq p x:=λj u p h1 h2=>by
  have h:∃(j:Nat)(p:PV),f[j]?=some u/\xs[j]?=some p:=⟨j,p,h1,h2⟩
  delta gOf;rw[dif_pos h];have hs:=fH (fH h);rw[inj _ _ u _ _ hs.1 hs.2 h1 h2]
 refine⟨λu M=>?_,QlA (λy=>peq y x) len _ λj u p h1 h2=>val j u p h1 h2⟩;obtain⟨j,hj⟩:=List.mem_iff_getElem?.mp M;have B:j<xs.length:=by rw[<-len];exact(aw.mp hj).1
 have e1:xs[j]?=some xs[j]:=by simp[B]
 rw[val j u _ hj e1];obtain⟨v1,E,L⟩:=l.get e1;obtain⟨w1,g1,t1⟩:=D.get E;rw[hj]at g1;cases g1;have O :=bf.mp ok _ (bi B);exact eqAt_rep I U 50 A _ _ v1 Y _ _ (okv_dep O) (by lia) (Qaw J) (by lia) L hx t1 rx
def QkP(h:pIn x y=some r):∃xs,(y = .lst xs\/y = .tup xs)/\okv x=true/\xs.all okv=true/\r = .bl (xs.any λy=>peq y x):=by
 cases y with
 |lst xs =>
  obtain⟨⟨f,j⟩,rfl⟩:=Qi h;exact⟨xs,.inl rfl,f,j,rfl⟩
 |tup xs =>
  obtain⟨⟨f,j⟩,rfl⟩:=Qi h;exact⟨xs,.inr rfl,f,j,rfl⟩
 |_=>cases h
def om_in(hu:X.A.units+64<iL):OpM X (bI .In) pIn:=by
 intro J s σ H x y v u Q I L M h;obtain⟨F,p,q,r,h1,h2,O,Y,w⟩:=h;obtain⟨xs,hk,T,U,rfl⟩:=QkP Y;have l:X.A.in1.units+60<iL:=by show X.A.units+1+60<iL;lia
 rcases hk with rfl | rfl
 .obtain⟨a,vs,rfl,k2,k3⟩:=O;cases M;obtain⟨f,B,D,_⟩:=I.list (h1.seq k2);obtain⟨he,j⟩:=QgX I h1 l U T h2 L k3 B;refine SeqAt.in_listAt (gOf f xs p) D.isList (λy E=>he y (by simpa using E)) ⟨.bl _,H,I,rfl,?_⟩;rw[show f.toArray.any (gOf f xs p)=f.any (gOf f xs p) by simp,j];exact w.here h1 (QB _)
 .obtain⟨a,vs,rfl,k2,k3⟩:=O;cases M;obtain⟨f,B,D,_⟩:=I.tuple (h1.seqT k2);obtain⟨he,j⟩:=QgX I h1 l U T h2 L k3 B;refine SeqAt.in_tupleAt (gOf f xs p) D (λy E=>he y (by simpa using E)) ⟨.bl _,H,I,rfl,?_⟩;rw[show f.toArray.any (gOf f xs p)=f.any (gOf f xs p) by simp,j];exact w.here h1 (QB _)
def om_notIn(hu:X.A.units+64<iL):OpM X (bI .NotIn) ZR:=by
 intro J s σ H x y v u Q I L M h;obtain⟨F,p,q,r,h1,h2,O,B,w⟩:=h;delta ZR at B;cases e:pIn p q with
 |none=>grind
 |some r0 =>
  rw[e]at B;obtain⟨xs,Y,T,U,rfl⟩:=QkP e;cases B;have l:X.A.in1.units+60<iL:=by grind
  rcases Y with rfl | rfl
  .obtain⟨a,vs,rfl,k2,k3⟩:=O;cases M;obtain⟨f,D,E,_⟩:=I.list (h1.seq k2);obtain⟨he,j⟩:=QgX I h1 l U T h2 L k3 D;refine SeqAt.notIn_listAt (gOf f xs p) E.isList (by grind) ⟨.bl _,H,I,rfl,?_⟩;rw[show f.toArray.any (gOf f xs p)=f.any (gOf f xs p) by simp,j];exact w.here h1 (QB _)
  .obtain⟨a,vs,rfl,k2,k3⟩:=O;cases M;obtain⟨f,D,E,_⟩:=I.tuple (h1.seqT k2);obtain⟨he,j⟩:=QgX I h1 l U T h2 L k3 D;refine SeqAt.notIn_tupleAt (gOf f xs p) E (by grind) ⟨.bl _,H,I,rfl,?_⟩;rw[show f.toArray.any (gOf f xs p)=f.any (gOf f xs p) by simp,j];exact w.here h1 (QB _)
def isN:PV->Bool
 |.non=>true
 |_=>false
def pIs:PV->PV->Option PV
 |p,.non=>some (.bl (isN p))
 |.bl a,.bl b=>some (.bl (a==b))
 |_,_=>none
def QgU:PV->PV->Option PV
 |p,.non=>some (.bl (!isN p))
 |.bl a,.bl b=>some (.bl (a != b))
 |_,_=>none
def op_isB:OpR X (bI .Is) (λx y H Q=>∃a b,x = .bl a/\y = .bl b/\Q (.bl (a==b)) H):=by
 intro f s B H x y v u Q I j l h;obtain⟨a,b,rfl,rfl,q⟩:=h;cases j;cases l;exact is_bool (Qdk I q rfl)
def op_notB:OpR X (bI .IsNot) (λx y H Q=>∃a b,x = .bl a/\y = .bl b/\Q (.bl (a != b)) H):=by
 intro f s B H x y v u Q I j l h;obtain⟨a,b,rfl,rfl,q⟩:=h;cases j;cases l;exact isnot_bool (Qdk I q rfl)
def Qld{K:aa}(h:Rep K F p v):decide (v = .non)=isN p:=by
 cases p<;>delta Rep at h<;>first
  | (done)
  | (obtain⟨a,vs,rfl,_⟩:=h;simp[isN];done)
  | (obtain⟨a,f,vs,rfl,_⟩:=h;simp[isN])
def om_is:OpM X (bI .Is) pIs:=by
 intro f s l H x y v u Q I B D h;obtain⟨F,p,q,r,h1,h2,E,j,w⟩:=h;cases q with
 |non =>
  cases j;exact op_isN f s l H x y v u Q I B D ⟨E,by rw[Qld h2];exact w.here h1 (QB _)⟩
 |bl b =>
  cases p with
  |bl a =>
   cases j;exact op_isB f s l H x y v u Q I B D ⟨a,b,h2,E,w.here h1 (QB _)⟩
  |_=>cases j
 |_=>cases p<;>cases j
def om_isNot:OpM X (bI .IsNot) QgU:=by
 intro f s l H x y v u Q I B D h;obtain⟨F,p,q,r,h1,h2,E,j,w⟩:=h;cases q with
 |non =>
  cases j;exact op_notN f s l H x y v u Q I B D ⟨E,by rw[Qld h2];exact w.here h1 (QB _)⟩
 |bl b =>
  cases p with
  |bl a =>
   cases j;exact op_notB f s l H x y v u Q I B D ⟨a,b,h2,E,w.here h1 (QB _)⟩
  |_=>cases j
 |_=>cases p<;>cases j
def pIx:PV->PV->Option PV
 |.lst xs,.int i=>atI xs i
 |.tup xs,.int i=>atI xs i
 |.str z,.int i=>if z.length<=LIM then (atI z.cps.toList i).map λc=>.str ⟨#[c]⟩ else none
 |_,_=>none
def Qly{K:aa}(h:RepL K F xs vs)(e:atI xs i=some r):∃v,atI vs i=some v/\Rep K F r v:=by
 unfold atI at e |-;rw[h.length];cases q:ixN xs.length i with
 |none=>rw[q]at e;cases e
 |some j =>
  rw[q]at e;exact h.get e
set_option tactic.hygienic true in
def im_ix:IxR X (rM2 X.K pIx):=by
 intro l slice j s B H x y v u Q I D E h J;obtain⟨F,p,q,r,h1,h2,L,f,w⟩:=h;cases p<;>cases q<;>first
  | (exfalso;cases f;done)
  |skip
 .rename_i z i;have f:(if z.length<=LIM then (atI z.cps.toList i).map λc=>PV.str ⟨#[c]⟩ else none)=some r:=f;by_cases c:z.length<=LIM
  .rw[au c]at f;cases e:atI z.cps.toList i with
   |none=>rw[e]at f;cases f
   |some k =>
    rw[e]at f;cases f;exact ix_str l slice j s B H x y v u Q I D E ⟨z,i,k,h2,L,aS c Qv,e,w.here h1 (Qap _)⟩ J
  .rw[aK c]at f;cases f
 .rename_i xs i;obtain⟨a,vs,rfl,k2,k3⟩:=h2;obtain⟨M,e1,e2⟩:=Qly k3 f;exact ix_tup l slice j s B H _ y v u Q I D E ⟨a,vs,i,M,rfl,L,h1.seqT k2,e1,w.here h1 e2⟩ J
 .rename_i xs i;obtain⟨a,vs,rfl,k2,k3⟩:=h2;obtain⟨M,e1,e2⟩:=Qly k3 f;exact ix_list l slice j s B H _ y v u Q I D E ⟨a,vs,i,M,rfl,L,h1.seq k2,e1,w.here h1 e2⟩ J
end
section
def Qb{α l:Type}{x:Option α}{f:α->Option l}{r:l}(h:x.bind f=some r):∃y,x=some y/\f y=some r:=by
 cases x with
 |none=>cases h
 |some y=>exact⟨y,rfl,h⟩
def Qw(h:x.map f=some r):∃y,x=some y/\f y=r:=by
 simp_all
def OM(X:Cx)(ms:List Nat)(e:Option Expr)(m:PEnv->Option (Option Int)):Prop :=
 PO X e λl H Q=>∃F f r,Same F H/\ERep X.K F l f ms/\m f=some r/\∀j B,Grow F H B j->Q r j
def mNo:PEnv->Option (Option Int):=λ_=>some none
def pInt:PV->Option (Option Int)
 |.int i=>some (some i)
 |_=>none
def mSo(m:MEx):PEnv->Option (Option Int):=λf=>(m f).bind pInt
def om_none:OM X [] none mNo:=λf s j H Q I ⟨F,B,r,h1,h2,l,w⟩=>po_none f s j H Q I (by
 cases l;exact w H F (.refl h1))
def om_some(h:EM X ms e m):OM X ms (some e) (mSo m):=λf s j H Q I ⟨F,l,r,h1,h2,B,w⟩=>po_some h f s j H Q I (by
 obtain⟨p,e1,e2⟩:=Qb B;refine⟨F,l,p,h1,h2,e1,λv D E g q=>?_⟩;cases p with
 |int i =>
  cases e2;exact⟨i,q,w D E g⟩
 |_=>cases e2)
def cutP(xs:List α)(lo f:Option Int):List α:=(xs.drop (HT.sIx xs.length 0 lo)).take (HT.sIx xs.length xs.length f-HT.sIx xs.length 0 lo)
def pCut:PV->Option Int->Option Int->Option (List PV)
 |.lst xs,lo,f=>some (cutP xs lo f)
 |_,_,_=>none
noncomputable def sl3(f:PV->Option Int->Option Int->Option α)(m:MEx)(B D:PEnv->Option (Option Int)):PEnv->Option α:=λj=>(m j).bind λx=>(B j).bind λl=>(D j).bind λh=>f x l h
def eo_cut{X:Cx}{lo:Option Expr}(he:EM X ms e m)(hl:OM X ns lo J)(L:OM X ls M O):EO X (ms++(ns++ls)) (.Subscript e (.Slice lo M none p2) T) (sl3 pCut m J O):=by
 refine PE.imp (Qii sl_list he hl L) λσ H Q U=>?_;obtain⟨F,E,r,h1,h2,f,w⟩:=U;obtain⟨x,e1,f⟩:=Qb f;obtain⟨l,e2,f⟩:=Qb f;obtain⟨h,e3,f⟩:=Qb f;refine⟨F,E,x,h1,h2.left,e1,λvx H1 Y B r1=>⟨Y,E,l,B.sub,h2.right.left.mono B.ext,e2,λH2 F2 D=>⟨F2,E,h,D.sub,h2.right.right.mono (B.ext.trans D.ext),e3,λH3 F3 j=>?_⟩⟩⟩;have g:=B.trans (D.trans j);cases x with
 |lst xs =>
  cases f;obtain⟨a,vs,rfl,k2,k3⟩:=r1;have gg:=D.ext.trans j.ext;refine⟨a,vs,rfl,j.sub.seq (gg.seq k2),λp I=>?_⟩;have nF :=j.sub.free I;refine w p _ _ F3 (g.trans (.side j.sub I)) (g.same.free I) nF Qf ?_;delta cutV cutP;rw[k3.length];exact((k3.drop _).take _).mono gg
 |_=>cases f
def WM(X:Cx)(ms:List Nat)(e:Expr)(m:PEnv->Option Bool):Prop:=PW X e (tMT X.K ms m)
def WM.tm(h:WM X ms e t1):TM X ms e t1:=PW.pt h
def _root_.L2.PW.imp(h:PW X e t)(i:∀f H Q,t' f H Q->t f H Q):PW X e t':=λwhole j s f H Q I q=>h whole j s f H Q I (i f H Q q)
def wm_and1(h:TM X ms a t1):WM X ms (.BoolOp .And [a] f) t1:=pw_and1 h
def wm_or1(h:TM X ms a t1):WM X ms (.BoolOp .Or [a] f) t1:=pw_or1 h
def bAnd(t1 l:PEnv->Option Bool):PEnv->Option Bool:=λf=>(t1 f).bind λx=>if x=true then l f else some false
def bOr(t1 l:PEnv->Option Bool):PEnv->Option Bool:=λf=>(t1 f).bind λx=>if x=true then some true else l f
def bNot(t1:PEnv->Option Bool):PEnv->Option Bool:=λf=>(t1 f).map not
def wm_and{X:Cx}{ms:List Nat}{ns:List Nat}{f:Pos}{t1:PEnv->Option Bool}{l:PEnv->Option Bool}{rest:List Expr}(h1:TM X ms a t1)(h2:WM X ns (.BoolOp .And (b::rest) f) l):WM X (ms++ns) (.BoolOp .And (a::b::rest) f) (bAnd t1 l) :=
 PW.imp (pw_and h1 h2) λM H Q D=>by
  obtain⟨F,B,r,k1,k2,k3,w⟩:=D;obtain⟨x,e1,k3⟩:=Qb k3;refine⟨F,B,x,k1,k2.left,e1,λO E j=>?_⟩;cases x with
  |true =>
   exact⟨E,B,r,j.sub,k2.right.mono j.ext,k3,λI J L=>w I J (j.trans L)⟩
  |false =>
   grind
def wm_or{X:Cx}{ms:List Nat}{ns:List Nat}{f:Pos}{t1:PEnv->Option Bool}{l:PEnv->Option Bool}{rest:List Expr}(h1:TM X ms a t1)(h2:WM X ns (.BoolOp .Or (b::rest) f) l):WM X (ms++ns) (.BoolOp .Or (a::b::rest) f) (bOr t1 l) :=
 PW.imp (pw_or h1 h2) λM H Q D=>by
  obtain⟨F,B,r,k1,k2,k3,w⟩:=D;obtain⟨x,e1,k3⟩:=Qb k3;refine⟨F,B,x,k1,k2.left,e1,λO E j=>?_⟩;cases x with
  |false =>
   exact⟨E,B,r,j.sub,k2.right.mono j.ext,k3,λI J L=>w I J (j.trans L)⟩
  |true =>
   grind
def tm_not(h:TM X ms a t1):TM X ms (.UnaryOp .Not a f) (bNot t1) :=
 PT.imp (pt_not h) λB H Q j=>by
  obtain⟨F,l,r,k1,k2,k3,w⟩:=j;obtain⟨x,e1,k3⟩:=Qw k3;subst k3;exact⟨F,l,x,k1,k2,e1,w⟩
def tru:PV->Option Bool
 |.non=>some false
 |.bl b=>some b
 |.int i=>some (i != 0)
 |.str y=>if y.length<=LIM then some ((y.length:Int) != 0) else none
 |.tup xs=>some (!xs.isEmpty)
 |.lst xs=>some (!xs.isEmpty)
 |.obj _ _ _=>none
 |.opq _=>none
def mTru(m:MEx):PEnv->Option Bool:=λf=>(m f).bind tru
def QcS{K:aa}(h:RepL K F xs vs):vs.isEmpty=xs.isEmpty:=by
 have:=h.length;cases vs<;>cases xs<;>simp_all
def tru_rep{K:aa}(f:Same F H)(h:Rep K F p v)(e:tru p=some k):TruV K v H k:=by
 cases p<;>unfold Rep at h
 .subst h;cases e;rfl
 .subst h;cases e;rfl
 .subst h;cases e;rfl
 .subst h;obtain⟨c,rfl⟩:=Qi e;exact⟨aS c Qv,rfl⟩
 .obtain⟨a,vs,rfl,k2,k3⟩:=h;cases e;exact .inr (.inl ⟨vs,f.seqT k2,by rw[QcS k3]⟩)
 .obtain⟨a,vs,rfl,k2,k3⟩:=h;cases e;exact .inl ⟨vs,f.seq k2,by rw[QcS k3]⟩
 .cases e
 .cases e
def tm_truth(h:EM X ms e m)(he:∀whole,isTrue e X.env whole=(do let v <-whole;gG e.pos;holding [v] (truthy v)):=by intro _;rfl):TM X ms e (mTru m) :=
 PT.imp (pt_truth h he) λD H Q f=>by
  obtain⟨F,j,r,k1,k2,k3,w⟩:=f;obtain⟨p,e1,e2⟩:=Qb k3;exact⟨F,j,p,k1,k2,e1,λv l B g q=>⟨r,tru_rep g.sub q e2,w l B g⟩⟩
def vAnd(l B:MEx):MEx:=λf=>(l f).bind λx=>(isB x).bind λk=>if k=true then B f else some (.bl false)
def vOr(l B:MEx):MEx:=λf=>(l f).bind λx=>(isB x).bind λk=>if k=true then some (.bl true) else B f
def vNot(f:MEx):MEx:=λj=>(f j).bind λx=>(isB x).map λk=>.bl (!k)
def QdX{K:aa}(h:Rep K F p v)(e:isB p=some k):v = .bl k:=by
 cases p with
 |bl b=>cases e;exact h
 |_=>cases e
def em_one(h:EM X ms a m):EM X ms (.BoolOp l [a] f) m:=pe_one h
def em_and{X:Cx}{ms:List Nat}{ns:List Nat}{l:MEx}{B:MEx}{f:Pos}{rest:List Expr}(h1:EM X ms a l)(h2:EM X ns (.BoolOp .And (b::rest) f) B):EM X (ms++ns) (.BoolOp .And (a::b::rest) f) (vAnd l B) :=
 PE.imp (pe_and h1 h2) λJ H Q E=>by
  obtain⟨F,D,r,k1,k2,k3,w⟩:=E;obtain⟨x,e1,k3⟩:=Qb k3;obtain⟨k,e2,k3⟩:=Qb k3;refine⟨F,D,x,k1,k2.left,e1,λv L I j q=>⟨k,QdX q e2,?_⟩⟩;cases k with
  |true =>
   exact⟨I,D,r,j.sub,k2.right.mono j.ext,k3,w.go j⟩
  |false =>
   cases k3;exact(w.go j).here j.sub (QB _)
def em_or{X:Cx}{ms:List Nat}{ns:List Nat}{l:MEx}{B:MEx}{f:Pos}{rest:List Expr}(h1:EM X ms a l)(h2:EM X ns (.BoolOp .Or (b::rest) f) B):EM X (ms++ns) (.BoolOp .Or (a::b::rest) f) (vOr l B) :=
 PE.imp (pe_or h1 h2) λJ H Q E=>by
  obtain⟨F,D,r,k1,k2,k3,w⟩:=E;obtain⟨x,e1,k3⟩:=Qb k3;obtain⟨k,e2,k3⟩:=Qb k3;refine⟨F,D,x,k1,k2.left,e1,λv L I j q=>⟨k,QdX q e2,?_⟩⟩;cases k with
  |false =>
   exact⟨I,D,r,j.sub,k2.right.mono j.ext,k3,w.go j⟩
  |true =>
   cases k3;exact(w.go j).here j.sub (QB _)
def em_not(h1:EM X ms a l):EM X ms (.UnaryOp .Not a B) (vNot l) :=
 PE.imp (pe_not h1) λE H Q j=>by
  obtain⟨F,D,r,k1,k2,k3,w⟩:=j;obtain⟨x,e1,k3⟩:=Qb k3;obtain⟨k,e2,k3⟩:=Qw k3;subst k3;exact⟨F,D,x,k1,k2,e1,λv I J f q=>⟨k,QdX q e2,(w.go f).here f.sub (QB _)⟩⟩
def mIfE(t:PEnv->Option Bool)(l B:MEx):MEx:=λf=>(t f).bind λk=>if k=true then l f else B f
def em_if(hc:TM X ls c t1)(B:EM X ms a D)(I:EM X ns b J):EM X (ls++(ms++ns)) (.IfExp c a b L) (mIfE t1 D J) :=
 PE.imp (pe_ifExp hc B I) λM H Q E=>by
  obtain⟨F,j,r,k1,k2,k3,w⟩:=E;obtain⟨k,e1,k3⟩:=Qb k3;refine⟨F,j,k,k1,k2.left,e1,λO l f=>?_⟩;cases k with
  |true =>
   exact⟨l,j,r,f.sub,k2.right.left.mono f.ext,k3,w.go f⟩
  |false =>
   exact⟨l,j,r,f.sub,k2.right.right.mono f.ext,k3,w.go f⟩
def ch3(f g:PV->PV->Option PV)(l B D:MEx):MEx:=λj=>(l j).bind λx=>(B j).bind λy=>(f x y).bind λz=>(isB z).bind λk=>if k=true then (D j).bind λw=>g y w else some (.bl false)
def Qfj{K:aa}(h:tM K (ms++(ns++ls)) (ch3 f g L M O) T H Q):QjY (rM2 K f) (rM2 K g) (tM K ms L) (tM K ns M) (tM K ls O) T H Q:=by
 obtain⟨F,l,r,h1,h2,j,w⟩:=h;obtain⟨x,e1,j⟩:=Qb j;obtain⟨y,e2,j⟩:=Qb j;obtain⟨z,e3,j⟩:=Qb j;obtain⟨k,U,j⟩:=Qb j;refine⟨F,l,x,h1,h2.left,e1,λvx H1 Y B r1=>⟨Y,l,y,B.sub,h2.right.left.mono B.ext,e2,λvy H2 F2 D J=>⟨F2,x,y,z,D.sub,r1.mono D.ext,J,e3,λvz H3 F3 E r3=>⟨k,QdX r3 U,?_⟩⟩⟩⟩;have gg:=B.trans (D.trans E);cases k with
 |true =>
  obtain⟨u,e5,j⟩:=Qb j;exact⟨F3,l,u,E.sub,h2.right.right.mono gg.ext,e5,λvw H4 F4 I r4=>⟨F4,y,u,r,I.sub,J.mono (E.ext.trans I.ext),r4,j,w.go (gg.trans I)⟩⟩
 |false =>
  cases j;exact(w.go gg).here gg.sub (QB _)
def em_chain(ho:OpM X (bI D) f)(B:OpM X (bI l) g)(I:EM X ms a J)(L:EM X ns b M)(hc:EM X ls c O)(hm:lN [D,l] [b,c]=false:=by with_unfolding_all rfl):EM X (ms++(ns++ls)) (.Compare a [D,l] [b,c] T) (ch3 f g J M O) :=
 PE.imp (pe_chain ho B I L hc hm) λ_ _ _ h=>Qfj h
def tm_chain(ho:OpM X (bI D) f)(B:OpM X (bI l) g)(I:EM X ms a J)(L:EM X ns b M)(hc:EM X ls c O)(hm:lN [D,l] [b,c]=false:=by with_unfolding_all rfl):TM X (ms++(ns++ls)) (.Compare a [D,l] [b,c] T) (truB (ch3 f g J M O)) :=
 PT.imp (pt_chain ho B I L hc hm) λ_ _ _ h=>Qia (λ_=>Qfj) h
def un1(f:PV->Option PV)(m:MEx):MEx:=λj=>(m j).bind f
def pNeg:PV->Option PV
 |.int i=>some (.int (-i))
 |_=>none
def pInv:PV->Option PV
 |.int i=>some (.int (dh i))
 |_=>none
def em_neg(h:EM X ms a m):EM X ms (.UnaryOp .USub a l) (un1 pNeg m) :=
 PE.imp (pe_un un_neg h) λD H Q j=>by
  obtain⟨F,B,r,k1,k2,k3,w⟩:=j;obtain⟨x,e1,k3⟩:=Qb k3;refine⟨F,B,x,k1,k2,e1,λv E I f q=>?_⟩;cases x with
  |int i=>cases k3;exact⟨i,q,(w.go f).here f.sub (Qp _)⟩
  |_=>cases k3
def em_inv(h:EM X ms a m):EM X ms (.UnaryOp .Invert a l) (un1 pInv m) :=
 PE.imp (pe_un un_inv h) λD H Q j=>by
  obtain⟨F,B,r,k1,k2,k3,w⟩:=j;obtain⟨x,e1,k3⟩:=Qb k3;refine⟨F,B,x,k1,k2,e1,λv E I f q=>?_⟩;cases x with
  |int i=>cases k3;exact⟨i,q,(w.go f).here f.sub (Qp _)⟩
  |_=>cases k3
noncomputable def aNil:PEnv->Option (List PV):=λ_=>some []
def Qa(m:MEx)(l:PEnv->Option (List PV)):PEnv->Option (List PV):=λf=>(m f).bind λx=>(l f).map (x :: ·)
def am_nil:AM X [] [] aNil:=PA.imp Qav λj H Q f=>by
 obtain⟨F,l,r,k1,k2,k3,w⟩:=f;cases k3;exact w [] H F (.refl k1) .nil
def am_cons(h:EM X ms e m)(hr:AM X ns f D)(I:ah (e::f) X.env=(false,eval e X.env)::ah f X.env:=by rfl):AM X (ms++ns) (e::f) (Qa m D) :=
 PA.imp (ZK h hr I) λU H Q E=>by
  obtain⟨F,l,r,k1,k2,k3,w⟩:=E;obtain⟨x,e1,k3⟩:=Qb k3;obtain⟨xs,e2,k3⟩:=Qw k3;subst k3;refine⟨F,l,x,k1,k2.left,e1,λv Y J j L=>⟨J,l,xs,j.sub,k2.right.mono j.ext,e2,λvs M O B T=>?_⟩⟩;exact w (v::vs) M O (j.trans B) (.cons (L.mono B.ext) T)
def mLim(m:PEnv->Option (List PV)):PEnv->Option (List PV):=λf=>(m f).bind λxs=>if xs.length<=LIM then some xs else none
def mTup(m:PEnv->Option (List PV)):MEx:=λf=>(m f).bind λxs=>if xs.length<=LIM then some (.tup xs) else none
def em_tup(h:AM X ms B D):EM X ms (.Tuple B L I) (mTup D) :=
 PE.imp (pe_tup h) λM H Q E=>by
  obtain⟨F,J,r,k1,k2,k3,w⟩:=E;obtain⟨xs,e1,k3⟩:=Qb k3;obtain⟨c,rfl⟩:=Qi k3;refine⟨F,J,xs,k1,k2,e1,λvs O T f j=>⟨by rw[j.length];exact aS c Qv,λp l=>?_⟩⟩;refine w _ _ _ (f.trans (.laid f.sub l)) ?_;exact⟨p,vs,rfl,.of Qf,j.mono (Grow.laid f.sub l).ext⟩
def eo_lst(h:AM X ms B D):EO X ms (.List B I) (mLim D) :=
 PE.imp (pe_lst h) λM H Q E=>by
  obtain⟨F,J,r,k1,k2,k3,w⟩:=E;obtain⟨xs,e1,k3⟩:=Qb k3;obtain⟨c,rfl⟩:=Qi k3;refine⟨F,J,xs,k1,k2,e1,λvs O L f l=>⟨by rw[l.length];grind[Qv],λp j=>?_⟩⟩;exact w p vs _ L (f.trans (.side f.sub j)) (f.same.free j) (f.sub.free j) Qf l
def rMA(K:aa)(g:List PV->Option PV):List V->Hp->VK->Prop:=λvs H Q=>∃F ps r,Same F H/\RepL K F ps vs/\g ps=some r/\Wv K F H r Q
def rMAO(K:aa)(g:List PV->Option (List PV)):List V->Hp->VK->Prop:=λvs H Q=>∃F ps r,Same F H/\RepL K F ps vs/\g ps=some r/\Wo K F H r Q
def QeH(X:Cx)(f:Value)(g:List PV->Option PV):Prop:=YQ X f (rMA X.K g)
def QhT(X:Cx)(f:Value)(g:List PV->Option (List PV)):Prop:=YQ X f (rMAO X.K g)
def Qc(g:List PV->Option α)(f:PEnv->Option (List PV)):PEnv->Option α:=λj=>(f j).bind g
def tCB_of{K:aa}(h:tM K ms (Qc g l) B H Q):tCB (rMA K g) (tMA K ms l) B H Q:=by
 obtain⟨F,j,r,k1,k2,k3,w⟩:=h;obtain⟨xs,e1,k3⟩:=Qb k3;exact⟨F,j,xs,k1,k2,e1,λvs I D f E=>⟨D,xs,r,f.sub,E,k3,w.go f⟩⟩
def QkA{K:aa}(h:tMO K ms (Qc g l) B H Q):tCB (rMAO K g) (tMA K ms l) B H Q:=by
 obtain⟨F,j,r,k1,k2,k3,w⟩:=h;obtain⟨xs,e1,k3⟩:=Qb k3;exact⟨F,j,xs,k1,k2,e1,λvs I D f E=>⟨D,xs,r,f.sub,E,k3,w.go f⟩⟩
def em_callB{X:Cx}{id:String}(hc:QeH X (.builtin id) g)(I:Gl X x)(hm:X.mg x=none)(J:cI x=some (.builtin id))(L:AM X ms (e::f) M)(O:x≠"__name__":=by decide)(l:(x=="__debug__")=false:=by decide)(he:ah (e::f) X.env=(false,eval e X.env)::ah f X.env:=by rfl)(B:(bx D (ah f X.env)).any (·.1)=false:=by rfl):EM X ms (.Call (.Name x p) (e::f) [] D) (Qc g M) :=
 PE.imp (YF hc I hm J L O l he B) λ_ _ _ h=>tCB_of h
def eo_callB{X:Cx}{id:String}(hc:QhT X (.builtin id) g)(I:Gl X x)(hm:X.mg x=none)(J:cI x=some (.builtin id))(L:AM X ms (e::f) M)(O:x≠"__name__":=by decide)(l:(x=="__debug__")=false:=by decide)(he:ah (e::f) X.env=(false,eval e X.env)::ah f X.env:=by rfl)(B:(bx D (ah f X.env)).any (·.1)=false:=by rfl):EO X ms (.Call (.Name x p) (e::f) [] D) (Qc g M) :=
 PE.imp (YF hc I hm J L O l he B) λ_ _ _ h=>QkA h
def em_callTy(hc:QeH X (.type T) g)(I:Gl X x)(hm:X.mg x=none)(J:cI x=some (.type T))(L:AM X ms (e::f) M)(O:x≠"__name__":=by decide)(l:(x=="__debug__")=false:=by decide)(he:ah (e::f) X.env=(false,eval e X.env)::ah f X.env:=by rfl)(B:(bx D (ah f X.env)).any (·.1)=false:=by rfl):EM X ms (.Call (.Name x p) (e::f) [] D) (Qc g M) :=
 PE.imp (ZS hc I hm J L O l he B) λ_ _ _ h=>tCB_of h
def eo_callTy(hc:QhT X (.type T) g)(I:Gl X x)(hm:X.mg x=none)(J:cI x=some (.type T))(L:AM X ms (e::f) M)(O:x≠"__name__":=by decide)(l:(x=="__debug__")=false:=by decide)(he:ah (e::f) X.env=(false,eval e X.env)::ah f X.env:=by rfl)(B:(bx D (ah f X.env)).any (·.1)=false:=by rfl):EO X ms (.Call (.Name x p) (e::f) [] D) (Qc g M) :=
 PE.imp (ZS hc I hm J L O l he B) λ_ _ _ h=>QkA h
def spM(K:aa)(n:Nat)(g:List PV->Option PV):Sp:=λvs H Q _=>vs.length=n/\rMA K g vs H Q
def tCall_of{K:aa}(J:∀ps r,g ps=some r->ps.length=n)(h:tM K ms (Qc g l) B H Q):QjR (spM K n g) [] E (tMA K ms l) B H Q:=by
 obtain⟨F,D,r,k1,k2,k3,w⟩:=h;obtain⟨xs,e1,k3⟩:=Qb k3;refine⟨F,D,xs,k1,k2,e1,λvs L I f j=>?_⟩
 skip
 rw[bu];exact⟨by rw[j.length];grind,I,xs,r,f.sub,j,k3,w.go f⟩
def em_call(F:FnOk X.prog X.w X.K X.mg X.base CX0 k f fd ps (spM X.K n g))(J:∀ps r,g ps=some r->ps.length=n)(hr:Room k X.A)(L:Gl X x)(hm:X.mg x=some (.ref f))(M:bX X.K (.ref f)=true)(O:Zp X.K fd ps [])(T:AM X ms (e::l) U)(B:(x=="__debug__")=false:=by decide)(he:ah (e::l) X.env=(false,eval e X.env)::ah l X.env:=by rfl)(D:(bx I (ah l X.env)).any (·.1)=false:=by rfl) :
  EM X ms (.Call (.Name x p) (e::l) [] I) (Qc g U) :=
 PE.imp (Qgy F hr L hm M O .nil Qhs T B he D) λ_ _ _ h=>tCall_of J h
end
inductive Out where
 |nx (γ:PEnv) | rt (p:PV) | ro (xs:List PV) | bk (γ:PEnv) | ct (γ:PEnv)
abbrev MSt:=PEnv->Option Out
def flat:PV->Bool
 |.tup _=>false
 |.lst _=>false
 |.obj _ _ _=>false
 |_=>true
def Rep.flat{K:aa}(f:flat p=true)(h:Rep K F p v):Rep K l p v:=by
 cases p<;>delta Rep at h |- <;> first | exact h | (cases f;done)
theorem RepL.flat{K:aa}:∀{ps:List PV}{vs:List V},ps.all PM.flat=true->RepL K F ps vs->RepL K l ps vs
 |[],_,_,h=>by grind[RepL]
 |p::ps,_,f,h=>by
  rw[fL,aN]at f;obtain⟨v,r,rfl,h2,j⟩:=h;exact .cons (h2.flat f.1) (RepL.flat f.2 j)
structure SR (K:aa) (B F₀ F:Hp) (σ:St) (H:Hp) (γ:PEnv):Prop where
 sub:Same F H
 base:Same B H
 f0:Same F₀ F
 fb:∀a o,F a=some o->F₀ a=some o\/B a=none
 len:σ.length=γ.length
 fz:∀(i:Nat) p,γ[i]?=some (.fz p)->∃v,σ[i]?=some (some v)/\Rep K F p v
 ow:∀(i:Nat) xs,γ[i]?=some (.ow xs)->∃a vs,σ[i]?=some (some (.ref a))/\H a=some (.lst vs)/\RepL K F xs vs/\F a=none/\B a=none
 dj:∀(i j:Nat) xs ys a,i≠j->γ[i]?=some (.ow xs)->γ[j]?=some (.ow ys)->σ[i]?=some (some (.ref a))->σ[j]?≠some (some (.ref a))
noncomputable def frz1(f:PEnv)(i:Nat):PEnv:=match f[i]? with
 |some (.ow xs)=>f.set i (.fz (.lst xs))
 |_=>f
def frz(ms:List Nat)(f:PEnv):PEnv:=ms.foldl frz1 f
set_option tactic.hygienic true in
def QmC f i j:getV (frz1 f i) j=getV f j:=by
 delta frz1;split
 .rename_i xs h;delta getV;by_cases e:i=j
  .subst e;have l :=(aw.mp h).1;rw[a0 l,h];rfl
  .rw[aA e]
 .rfl
theorem QiA:∀ms f j,getV (frz ms f) j=getV f j
 |[],_,_=>rfl
 |i::ms,f,j=>by
  show getV (frz ms (frz1 f i)) j=_;rw[QiA ms,QmC]
section
set_option tactic.hygienic true in
def SR.frz1{K:aa}{F:Hp}(S:SR K B I F U H J) i:∃T,SR K B I T U H (frz1 J i)/\Same F T:=by
 delta PM.frz1;split
 .rename_i xs h;obtain⟨a,vs,h1,h2,Y,h4,h5⟩:=S.ow i xs h;have L :=(aw.mp h).1;have E:Same F (upd F a (.lst vs)):=λb u q=>by rw[Qh (Qg q h4)];exact q
  refine⟨upd F a (.lst vs),⟨λb u q=>?_,S.base,S.f0.trans E,λb u q=>?_,by simpa using S.len,λj p e=>?_,λj ys e=>?_,λj k ys D c M e1 e2 e3=>?_⟩,E⟩
  .by_cases z:b=a
   .subst z;rw[Qf]at q;rw[h2];exact q
   .rw[Qh z]at q;exact S.sub b u q
  .by_cases z:b=a
   .subst z;exact .inr h5
   .rw[Qh z]at q;exact S.fb b u q
  .by_cases l:i=j
   .subst l;rw[a0 L]at e;cases e;refine⟨.ref a,h1,?_⟩;exact⟨a,vs,rfl,.of Qf,Y.mono E⟩
   .rw[aA l]at e;obtain⟨v,k1,k2⟩:=S.fz j p e;exact⟨v,k1,k2.mono E⟩
  .by_cases l:i=j
   .subst l;rw[a0 L]at e;cases e
   .rw[aA l]at e;obtain⟨c,us,k1,k2,k3,k4,k5⟩:=S.ow j ys e;have O:c≠a:=λz=>by
     subst z;exact S.dj i j xs ys c l h e h1 k1
    exact⟨c,us,k1,k2,k3.mono E,by rw[Qh O];exact k4,k5⟩
  .have f:∀(n:Nat) D,(J.set i (.fz (.lst xs)))[n]?=some (.ow D)->J[n]?=some (.ow D):=λn D q=>by
    by_cases l:i=n
    .subst l;rw[a0 L]at q;cases q
    .rw[aA l]at q;exact q
   exact S.dj j k ys D c M (f j ys e1) (f k D e2) e3
 .exact⟨F,S,Same.refl _⟩
theorem SR.frz{K:aa}:∀ms {F:Hp} {l:PEnv},SR K B f F I H l->∃D,SR K B f D I H (frz ms l)/\Same F D
 |[],F,_,S=>⟨F,S,Same.refl _⟩
 |i::ms,F,l,S=>by
  obtain⟨D,j,e1⟩:=S.frz1 i;obtain⟨E,J,e2⟩:=SR.frz ms j;exact⟨E,J,e1.trans e2⟩
set_option tactic.hygienic true in
def QmE{i j:Nat}(h:∀xs,l[j]?≠some (.ow xs)):∀xs,(PM.frz1 l i)[j]?≠some (.ow xs):=λxs=>by
 delta PM.frz1;split
 .rename_i ys e;by_cases f:i=j
  .subst f;exact absurd e (h ys)
  .rw[aA f];exact h xs
 .exact h xs
set_option tactic.hygienic true in
def QmD:∀xs,(PM.frz1 l i)[i]?≠some (.ow xs):=λxs=>by
 delta PM.frz1;split
 .rename_i ys e;have f :=(aw.mp e).1;rw[a0 f];intro z;cases z
 .rename_i h;exact h xs
theorem QiB:∀ms {f:PEnv} {j:Nat},(∀xs,f[j]?≠some (.ow xs))->∀xs,(PM.frz ms f)[j]?≠some (.ow xs)
 |[],_,_,h=>h
 |i::ms,f,j,h=>QiB ms (QmE h)
theorem Qlj:∀ms {f:PEnv} {j:Nat},j∈ms->∀xs,(PM.frz ms f)[j]?≠some (.ow xs)
 |[],_,_,h=>by cases h
 |i::ms,f,j,h=>by
  rcases ap.mp h with rfl | h
  .exact QiB ms QmD
  .exact Qlj ms h
def SR.erep{K:aa}{F:Hp}(S:SR K B l F D H f)(h:∀i∈ms,∀xs,f[i]?≠some (.ow xs)):ERep K F D f ms:=λi j p e=>by
 delta getV at e;cases q:f[i]? with
 |none=>rw[q]at e;cases e
 |some t =>
  cases t with
  |un=>rw[q]at e;cases e
  |fz E =>
   rw[q]at e;cases e;exact S.fz i p q
  |ow xs=>exact absurd q (h i j xs)
def SR.see{K:aa}{F:Hp}(S:SR K B f F D H I)(ms:List Nat):∃l,SR K B f l D H (PM.frz ms I)/\Same F l/\ERep K l D I ms:=by
 obtain⟨l,E,e1⟩:=SR.frz ms S;refine⟨l,E,e1,λi J p e=>?_⟩;exact E.erep (ms:=ms) (λj hj=>Qlj ms hj) i J p (by rw[QiA];exact e)
def SR.same{K:aa}{F:Hp}(S:SR K B f F l H D)(e:Same H I):SR K B f F l I D :=
 ⟨S.sub.trans e,S.base.trans e,S.f0,S.fb,S.len,S.fz,λi xs h=>by
  obtain⟨a,vs,h1,h2,j⟩:=S.ow i xs h;exact⟨a,vs,h1,e _ _ h2,j⟩,S.dj⟩
def SR.grow{K:aa}{F:Hp}(S:SR K B f F D H I)(g:Grow F H l J):SR K B f l D J I:=by
 refine⟨g.sub,S.base.trans g.same,S.f0.trans g.ext,λa o e=>?_,S.len,λi p h=>?_,λi xs h=>?_,S.dj⟩
 .rcases g.new a o e with z | z
  .exact S.fb a o z
  .exact .inr (S.base.free z)
 .obtain⟨v,h1,h2⟩:=S.fz i p h;exact⟨v,h1,h2.mono g.ext⟩
 .obtain⟨a,vs,h1,h2,j,E,L⟩:=S.ow i xs h;refine⟨a,vs,h1,g.same _ _ h2,j.mono g.ext,?_,L⟩;cases q:l a with
  |none=>rfl
  |some o =>
   rcases g.new a o q with z | z
   .rw[E]at z;cases z
   .rw[h2]at z;cases z
def SR.setFz{K:aa}{F:Hp}{M:St}{D:PEnv}(S:SR K B J F M H D) i (r:Rep K F p v):SR K B J F (M.set i (some v)) H (D.set i (.fz p)):=by
 have f:∀n E,(D.set i (.fz p))[n]?=some (.ow E)->i≠n/\D[n]?=some (.ow E):=λn E q=>by
  by_cases l:i=n
  .subst l;by_cases I:i<D.length
   .rw[a0 I]at q;cases q
   .rw[bp (by simpa using I)]at q;cases q
  .rw[aA l]at q;exact⟨l,q⟩
 refine⟨S.sub,S.base,S.f0,S.fb,by simpa using S.len,λj q e=>?_,λj ys e=>?_,λj k ys E c L e1 e2 e3=>?_⟩
 .by_cases l:i=j
  .subst l;by_cases I:i<D.length
   .rw[a0 I]at e;cases e;exact⟨v,by rw[a0 (by rw[S.len];exact I)],r⟩
   .rw[bp (by simpa using I)]at e;cases e
  .rw[aA l]at e;obtain⟨u,h1,h2⟩:=S.fz j q e;exact⟨u,by rw[aA l];exact h1,h2⟩
 .obtain⟨ne,e⟩:=f j ys e;obtain⟨a,vs,h1,h2⟩:=S.ow j ys e;exact⟨a,vs,by rw[aA ne];exact h1,h2⟩
 .obtain⟨O,e1⟩:=f j ys e1;obtain⟨T,e2⟩:=f k E e2;rw[aA O]at e3;rw[aA T];exact S.dj j k ys E c L e1 e2 e3
def SR.setOw{K:aa}{F:Hp}{L:St}{l:PEnv}(S:SR K B J F L H l) i {xs:List PV} {a:Addr} {vs:List V} (U:H a=some (.lst vs)) (r:RepL K F xs vs) (Y:F a=none) (nB:B a=none)
  (nd:∀j ys,i≠j->l[j]?=some (.ow ys)->L[j]?≠some (some (.ref a))):SR K B J F (L.set i (some (.ref a))) H (l.set i (.ow xs)):=by
 refine⟨S.sub,S.base,S.f0,S.fb,by simpa using S.len,λj q e=>?_,λj ys e=>?_,λj k ys O c D e1 e2 e3 I=>?_⟩
 .by_cases E:i=j
  .subst E;by_cases f:i<l.length
   .rw[a0 f]at e;cases e
   .rw[bp (by simpa using f)]at e;cases e
  .rw[aA E]at e;obtain⟨u,h1,h2⟩:=S.fz j q e;exact⟨u,by rw[aA E];exact h1,h2⟩
 .by_cases E:i=j
  .subst E;by_cases f:i<l.length
   .rw[a0 f]at e;cases e;exact⟨a,vs,by rw[a0 (by rw[S.len];exact f)],U,r,Y,nB⟩
   .rw[bp (by simpa using f)]at e;cases e
  .rw[aA E]at e;obtain⟨b,us,h1,h2⟩:=S.ow j ys e;exact⟨b,us,by rw[aA E];exact h1,h2⟩
 .by_cases M:i=j
  .subst M;by_cases f:i<l.length
   .rw[a0 (by rw[S.len];exact f)]at e3;cases e3;rw[aA D]at e2 I;exact nd k O D e2 I
   .rw[bp (by simpa using f)]at e1;cases e1
  .rw[aA M]at e1 e3;by_cases T:i=k
   .subst T;by_cases f:i<l.length
    .rw[a0 (by rw[S.len];exact f)]at I;cases I;exact nd j ys M e1 e3
    .rw[bp (by simpa using f)]at e2;cases e2
   .rw[aA T]at e2 I;exact S.dj j k ys O c D e1 e2 e3 I
def SR.write{K:aa}{F:Hp}{D:PEnv}(S:SR K B I F U H D)(L:D[i]?=some (.ow xs))(O:U[i]?=some (some (.ref a)))(r:RepL K F ys us) :
  SR K B I F U (upd H a (.lst us)) (D.set i (.ow ys)):=by
 obtain⟨a',vs,h1,h2,h3,Y,h5⟩:=S.ow i xs L;rw[O]at h1;cases h1;have E :=(aw.mp L).1;have stay:∀b o,H b=some o->b≠a->upd H a (.lst us) b=some o:=λb o e n=>by rw[Qh n];exact e
 refine⟨λb o e=>stay b o (S.sub b o e) (Qg e Y),λb o e=>stay b o (S.base b o e) (Qg e h5),S.f0,S.fb,by simpa using S.len,λj q e=>?_,λj M e=>?_,λj k ws M c T e1 e2 e3 e4=>?_⟩
 .by_cases l:i=j
  .subst l;rw[a0 E]at e;cases e
  .rw[aA l]at e;exact S.fz j q e
 .by_cases l:i=j
  .subst l;rw[a0 E]at e;cases e;exact⟨a,us,O,Qf,r,Y,h5⟩
  .rw[aA l]at e;obtain⟨b,ts,k1,k2,k3⟩:=S.ow j M e;have hb:b≠a:=λz=>by
    subst z;exact S.dj i j xs M b l L e O k1
   exact⟨b,ts,k1,stay _ _ k2 hb,k3⟩
 .have f:∀(n:Nat) ws,(D.set i (.ow ys))[n]?=some (.ow ws)->∃J,D[n]?=some (.ow J):=λn ws q=>by
   by_cases l:i=n
   .subst l;exact⟨xs,L⟩
   .rw[aA l]at q;exact⟨ws,q⟩
  obtain⟨J,e1⟩:=f j ws e1;obtain⟨av,e2⟩:=f k M e2;exact S.dj j k _ _ c T e1 e2 e3 e4
def SR.up{K:aa}{F:Hp}(S:SR K B f F D H I)(e1:Same f l)(e:Same l F):SR K B l F D H I :=
 ⟨S.sub,S.base,e,λa o q=>(S.fb a o q).imp (λz=>e1 a o z) id,S.len,S.fz,S.ow,S.dj⟩
def SR.down{K:aa}{F:Hp}(S:SR K B D F I H J)(e1:Same f D)(l:∀a o,D a=some o->f a=some o\/B a=none):SR K B f F I H J :=
 ⟨S.sub,S.base,e1.trans S.f0,λa o q=>(S.fb a o q).elim (λz=>l a o z) .inr,S.len,S.fz,S.ow,S.dj⟩
def Grow.down(g:Grow D B I J)(e1:Same f D)(l:∀a o,D a=some o->f a=some o\/B a=none):Grow f B I J :=
 ⟨e1.trans g.ext,g.sub,g.same,λa o q=>(g.new a o q).elim (λz=>l a o z) .inr⟩
def SR.gr{K:aa}{F:Hp}(S:SR K B f F l H D):Grow f B F H:=⟨S.f0,S.sub,S.base,S.fb⟩
end
def QnA(K:aa)(B f:Hp)(D:Ends):Out->Prop
 |.nx l=>∀j H F,SR K B f F j H l->D.nx j H
 |.rt p=>∀v H F,Grow f B F H->Rep K F p v->D.rt v H
 |.ro xs=>∀a vs H F,Grow f B F H->B a=none->F a=none->H a=some (.lst vs)->RepL K F xs vs->D.rt (.ref a) H
 |.bk l=>∀j H F,SR K B f F j H l->D.bk j H
 |.ct l=>∀j H F,SR K B f F j H l->D.ct j H
inductive tMS (K:aa) (m:MSt) (D:Ends) (σ:St) (H:Hp):Prop
 |mk B F₀ F γ o:SR K B F₀ F σ H γ->m γ=some o->QnA K B F₀ D o->tMS K m D σ H
def SM(X:Cx)(st:Stmt)(m:MSt):Prop:=PS X st (tMS X.K m)
def SMs(X:Cx)(sts:List Stmt)(m:MSt):Prop:=PSs X sts (tMS X.K m)
section
def _root_.L2.PSs.imp(h:PSs X sts t)(i:∀D f H,t' D f H->t D f H):PSs X sts t':=λj s f H D I q=>h j s f H D I (i D f H q)
noncomputable def sNx:MSt:=λf=>some (.nx f)
noncomputable def sSeq(s1 s2:MSt):MSt:=λj=>(s1 j).bind λo=>match o with
 |.nx f=>s2 f
 |o=>some o
def ss_nil:SMs X [] sNx:=PSs.imp pss_nil λD j H l=>by
 obtain⟨B,f,F,E,o,S,e,ok⟩:=l;cases e;exact ok j H F S
def ss_one{X:Cx}{st:Stmt}(h:SM X st s1):SMs X [st] s1:=Qgx h
variable{X:Cx}{st:Stmt}{sts:List Stmt}{s1:MSt}{s2:MSt} in theorem ss_cons (h:SM X st s1) (hr:SMs X sts s2):SMs X (st::sts) (sSeq s1 s2):=PSs.imp (pss_cons h hr) λD σ H zz=>by
 obtain⟨B,F₀,F,γ,o,S,e,ok⟩:=zz;obtain⟨o1,e1,e2⟩:=Qb e;refine⟨B,F₀,F,γ,o1,S,e1,?_⟩;cases o1 with
 |nx γ'=>exact λσ' H' F' S'=>⟨B,F₀,F',γ',o,S',e2,ok⟩
 |_=>cases e2;exact ok
def sBk:MSt:=λf=>some (.bk f)
def sCt:MSt:=λf=>some (.ct f)
def sNo:MSt:=λ_=>none
def sm_no{X:Cx}{st:Stmt}:SM X st sNo:=PS.imp ps_never λD l H j=>by obtain⟨B,f,F,E,o,S,e,ok⟩:=j;cases e
def sRet(m:MEx):MSt:=λf=>(m f).map .rt
def Zk(m:PEnv->Option (List PV)):MSt:=λf=>(m f).map .ro
noncomputable def Yr(i:Nat):MSt:=λf=>match f[i]? with
 |some (.ow xs)=>some (.ro xs)
 |some (.fz p)=>some (.rt p)
 |_=>none
def sm_ret{X:Cx}(h:EM X ms e m):SM X (.Return (some e) l) (sRet m):=PS.imp (Qke h) λD T H E=>by
 obtain⟨B,f,F,I,o,S,e,ok⟩:=E;obtain⟨r,e1,e2⟩:=Qw e;subst e2;obtain⟨J,j,U,L⟩:=S.see ms;exact⟨J,I,r,j.sub,L,e1,λv M O g q=>ok v M O (j.grow g).gr q⟩
def sm_retO{X:Cx}{m:PEnv->Option (List PV)}(h:EO X ms e m):SM X (.Return (some e) l) (Zk m):=PS.imp (Qke h) λD Y H E=>by
 obtain⟨B,j,F,I,o,S,e,ok⟩:=E;obtain⟨r,e1,e2⟩:=Qw e;subst e2;obtain⟨J,f,x1,L⟩:=S.see ms;exact⟨J,I,r,f.sub,L,e1,λa vs M O g n T U q=>ok a vs M O (f.grow g).gr (f.base.free n) T U q⟩
set_option tactic.hygienic true in
def sm_retV i (h:PE X (.Name x p2) (tVar i)):SM X (.Return (some (.Name x p2)) l) (Yr i):=PS.imp (Qke h) λD L H j=>by
 obtain⟨B,f,F,M,o,S,e,ok⟩:=j;delta Yr at e;split at e
 .rename_i xs h;cases e;obtain⟨a,vs,h1,h2,E,I,J⟩:=S.ow i xs h;exact⟨.ref a,h1,ok a vs H F S.gr J I h2 E⟩
 .rename_i p h;cases e;obtain⟨v,h1,h2⟩:=S.fz i p h;exact⟨v,h1,ok v H F S.gr h2⟩
 .cases e
def sIf(t:PEnv->Option Bool)(s1 s2:MSt):MSt:=λf=>(t f).bind λk=>if k=true then s1 f else s2 f
def sm_if{X:Cx}(hc:TM X ms c t)(l:SMs X xs s1)(I:SMs X ys s2):SM X (.If c xs ys J) (sIf t s1 s2):=PS.imp (ps_if hc l I) λD T H E=>by
 obtain⟨B,f,F,j,o,S,e,ok⟩:=E;obtain⟨k,e1,e2⟩:=Qb e;obtain⟨L,M,U,O⟩:=S.see ms;refine⟨L,j,k,M.sub,O,e1,λY F' g=>?_⟩;cases k with
 |_=>exact⟨B,f,F,j,o,S.same g.same,e2,ok⟩
def Qx(k:Bool)(ms:List Nat)(f:PEnv):PEnv:=if k=true then f else frz ms f
def sSet(ms:List Nat)(i:Nat)(m:MEx):MSt:=λf=>(m f).map λr=>.nx ((Qx (flat r) ms f).set i (.fz r))
def Qm(ms:List Nat)(i:Nat)(m:PEnv->Option (List PV)):MSt:=λf=>(m f).map λxs=>.nx ((Qx (xs.all flat) ms f).set i (.ow xs))
def SR.val{K:aa}{B l F L D H M:Hp}{I:St}{J:PEnv}{r:PV}{v:V}(S:SR K B l F I H J)(T:SR K B l L I H (PM.frz ms J))(g:Grow L H D M)(q:Rep K D r v) :
  ∃O,SR K B l O I M (Qx (flat r) ms J)/\Rep K O r v:=by
 delta Qx;cases f:flat r with
 |true=>rw[au rfl];exact⟨F,S.same g.same,q.flat f⟩
 |false=>rw[aK gx];exact⟨D,T.grow g,q⟩
def SR.valO{K:aa}(S:SR K B l F J H L)(O:Same F M)(T:SR K B l M J H (PM.frz ms L))(g:Grow M H D U)(q:RepL K D r vs) :
  ∃I,SR K B l I J U (Qx (r.all flat) ms L)/\RepL K I r vs/\Same I D:=by
 cases f:r.all flat with
 |true=>exact⟨F,S.same g.same,q.flat f,O.trans g.ext⟩
 |false=>exact⟨D,T.grow g,q,Same.refl _⟩
def sm_set{X:Cx}{f:Pos}(I:X.N.Nodup)(J:X.N[i]?=some x)(L:Loc X.env.scope x)(h:EM X ms e m)(M:cB e (some (.Name x p2)) f.line X.env=pure false:=by rfl)(hf:X.fn x=true\/X.env.scope.names.lookup x=some .local:=by first | exact .inl rfl | exact .inr rfl | assumption) :
  SM X (.Assign [.Name x p2] e f) (sSet ms i m):=PS.imp (ps_set I J L h M hf) λD σ H E=>by
 obtain⟨B,j,F,O,o,S,e,ok⟩:=E;obtain⟨r,e1,e2⟩:=Qw e;subst e2;obtain⟨T,l,x1,U⟩:=S.see ms;refine⟨T,O,r,l.sub,U,e1,λv H' F' g q=>?_⟩;obtain⟨Y,S2,q2⟩:=S.val l g q;exact ok _ _ Y (S2.setFz i q2)
def SR.setNew{K:aa}{a:Addr}(S:SR K B f F D H l)(U:Same F J)(L:SR K B f J D H (PM.frz ms l))(g:Grow J H M O)(n:H a=none)(Y:M a=none)(hH:O a=some (.lst vs))(q:RepL K M r vs) i :
  ∃I,SR K B f I (D.set i (some (.ref a))) O ((Qx (r.all flat) ms l).set i (.ow r)):=by
 obtain⟨I,E,q2,x2⟩:=S.valO U L g q;have own:∀(j:Nat) ys,(Qx (r.all flat) ms l)[j]?=some (.ow ys)->D[j]?≠some (some (.ref a)):=λj ys e1 e2=>by
  have key:∀{F:Hp}{l:PEnv},SR K B f F D H l->l[j]?=some (.ow ys)->False:=λ{F l} T e1=>by
   obtain⟨b,us,h1,h2,_⟩:=T.ow j ys e1;rw[e2]at h1;cases h1;rw[n]at h2;cases h2
  delta Qx at e1;split at e1
  .exact key S e1
  .exact key L e1
 exact⟨I,E.setOw i hH q2 (x2.free Y) (S.base.free n) λj ys _ e1=>own j ys e1⟩
def sm_setO{X:Cx}{f:Pos}{m:PEnv->Option (List PV)}(I:X.N.Nodup)(J:X.N[i]?=some x)(L:Loc X.env.scope x)(h:EO X ms e m)(M:cB e (some (.Name x p2)) f.line X.env=pure false:=by rfl)(hf:X.fn x=true\/X.env.scope.names.lookup x=some .local:=by first | exact .inl rfl | exact .inr rfl | assumption) :
  SM X (.Assign [.Name x p2] e f) (Qm ms i m):=PS.imp (ps_set I J L h M hf) λD σ H E=>by
 obtain⟨B,j,F,O,o,S,e,ok⟩:=E;obtain⟨r,e1,e2⟩:=Qw e;subst e2;obtain⟨T,l,U,Y⟩:=S.see ms;refine⟨T,O,r,l.sub,Y,e1,λa vs H' F' g n nF hH q=>?_⟩;obtain⟨F2,S2⟩:=S.setNew U l g n nF hH q i;exact ok _ _ F2 S2
end
def _root_.L2.PG.imp(h:PG X e t)(i:∀v f H Q,t' v f H Q->t v f H Q):PG X e t':=λj s f H v u Q I r q=>h j s f H v u Q I r (i v f H Q q)
theorem QfD:∀ms {f:PEnv} {j:Nat},j∉ms->(frz ms f)[j]?=f[j]?
 |[],_,_,_=>rfl
 |i::ms,f,j,h=>by
  show(frz ms (frz1 f i))[j]?=_;rw[QfD ms (λz=>h (ax _ z))];delta frz1;split
  .rw[aA (λz=>h (by simp[z]))]
  .rfl
def Qba(h:f[i]?=some (.ow xs))(c:(k || !ms.contains i)=true):(Qx k ms f)[i]?=some (.ow xs):=by
 delta Qx;cases k with
 |true=>exact h
 |false =>
  rw[aK gx];have :=by simpa using c
  rw[QfD ms this];exact h
section
def sAug(i:Nat)(f:PV->PV->Option PV)(m:MEx):MSt:=λj=>(getV j i).bind λx=>(m j).bind λy=>(f x y).bind λr=>if flat r=true then some (.nx (j.set i (.fz r))) else none
def sm_aug{X:Cx}(I:X.N.Nodup)(J:X.N[i]?=some x)(L:Loc X.env.scope x)(h:EM X ms e m)(ho:OpM X (jU M) f)(hf:X.fn x=true\/X.env.scope.names.lookup x=some .local:=by first | exact .inl rfl | exact .inr rfl | assumption):SM X (.AugAssign (.Name x p2) M e O) (sAug i f m) :=
 PS.imp (ps_aug I J L h ho hf) λD σ H T=>by
  obtain⟨B,l,F,U,o,S,e,ok⟩:=T;obtain⟨x,e1,e⟩:=Qb e;obtain⟨y,e2,e⟩:=Qb e;obtain⟨r,e3,e⟩:=Qb e;obtain⟨fl,rfl⟩:=Qi e;obtain⟨Y,S1,x1,E⟩:=S.see (i::ms);obtain⟨xv,h1,h2⟩:=E i (by simp) x e1;refine⟨xv,h1,Y,U,y,S1.sub,λj hj=>E j (ax _ hj),e2,λyv H' F' g q=>⟨F',x,y,r,g.sub,h2.mono g.ext,q,e3,λzv H2 F2 g2 q2=>?_⟩⟩;exact ok _ _ F ((S.same (g.same.trans g2.same)).setFz i (q2.flat fl))
def tMG(K:aa)(I:List Nat)(g:PV->PEnv->Option PEnv):TG:=λv D H Q=>∃B j F E p l,SR K B j F D H E/\Rep K F p v/\g p E=some l /\
 ∀f,SR K B j F f H l->f.length=D.length->(∀n,n∉I->f[n]?=D[n]?)->Q f H
def GM(X:Cx)(f:List Nat)(l:Expr)(g:PV->PEnv->Option PEnv):Prop:=PG X l (tMG X.K f g)
noncomputable def gSet(i:Nat):PV->PEnv->Option PEnv:=λp f=>some (f.set i (.fz p))
def Xg(i j:Nat):PV->PEnv->Option PEnv:=λp f=>match p with
 |.tup [x,y]=>some ((f.set i (.fz x)).set j (.fz y))
 |_=>none
def gSet3(i j k:Nat):PV->PEnv->Option PEnv:=λp f=>match p with
 |.tup [x,y,z]=>some (((f.set i (.fz x)).set j (.fz y)).set k (.fz z))
 |_=>none
def gm_name(h:PG X (.Name x f) (QhF i)):GM X [i] (.Name x f) (gSet i):=PG.imp h λv I H Q l=>by
 obtain⟨B,j,F,J,p,D,S,r,e,w⟩:=l;cases e;refine w _ (S.setFz i r) (by simp) λn E=>?_;rw[aA (λz=>E (by simp[z]))]
def gm_tup2(h:PG X (.Tuple [x,y] I f) (gTup X.K 2 (gCons (QhF i) (gCons (QhF j) gNil)))):GM X [i,j] (.Tuple [x,y] I f) (Xg i j) :=
 PG.imp h λv U H Q E=>by
  obtain⟨B,l,F,Y,p,J,S,r,e,w⟩:=E;delta Xg at e;split at e
  .cases e;obtain⟨a,vs,rfl,k2,k3⟩:=r;obtain⟨L,r1,rfl,M,k3⟩:=k3;obtain⟨O,r2,rfl,T,k3⟩:=k3;subst k3;refine⟨a,_,rfl,S.sub.seqT k2,rfl,L,_,rfl,O,_,rfl,rfl,?_⟩;refine w _ ((S.setFz i M).setFz j T) (by simp) λn D=>?_;rw[aA (λz=>D (by simp[z])),aA (λz=>D (by simp[z]))]
  .cases e
def sApp(ms:List Nat)(i:Nat)(m:MEx):MSt:=λf=>match f[i]? with
 |some (.ow xs)=>(m f).bind λr=>if xs.length<LIM/\(flat r || !ms.contains i)=true then some (.nx ((Qx (flat r) ms f).set i (.ow (xs++[r])))) else none
 |_=>none
def QbT{K:aa}{a:Addr}(h:SqL K H a vs):tyV K "list" (.ref a) H := .inl ⟨rfl,vs,h⟩
def sm_app(hx:PE X (.Name x p2) (tVar i))(h:EM X ms e m)(ps:PS X (.Expr (.Call (.Attribute (.Name x p2) "append" f) [e] [] l) I) (Qhg (tBM X.K "list" QkI (tVar i) (tMA X.K ms (Qa m aNil))))) :
  SM X (.Expr (.Call (.Attribute (.Name x p2) "append" f) [e] [] l) I) (sApp ms i m):=PS.imp ps λD σ H T=>by
 obtain⟨B,J,F,U,o,S,e,ok⟩:=T;delta sApp at e;split at e
 .rename_i xs L;obtain⟨r,e1,e⟩:=Qb e;obtain⟨⟨hl,c⟩,rfl⟩:=Qi e;obtain⟨a,vs,h1,h2,_⟩:=S.ow i xs L;obtain⟨Y,M,x1,er⟩:=S.see ms;refine⟨.ref a,h1,QbT (.of h2),Y,U,[r],M.sub,er,by simp[Qa,aNil,e1],λus H' F' g q=>?_⟩;obtain⟨v,t,rfl,q,qt⟩:=q;subst qt;obtain⟨F2,O,q2⟩:=S.val M g q;have j:=Qba L c;obtain⟨a2,E,k1,k2,k3,_⟩:=O.ow i xs j;rw[h1]at k1;cases k1;refine⟨a,E,v,rfl,rfl,k2,?_,?_⟩
  .rw[k3.length];exact aF hl Qv
  .exact ok _ _ F2 (O.write j h1 (k3.snoc q2))
 .cases e
structure ItRep (K:aa) (J:It) (F:Hp) (xs:List PV):Prop where
 go:∀i H,i<xs.length->Same F H->J.go i H
 yld:∀i H x H',i<xs.length->Same F H->J.yld i H x H'->∃p,xs[i]?=some p/\∀F1,Same F F1->Same F1 H->∃F2,Grow F1 H F2 H'/\Rep K F2 p x
 stop:∀H,Same F H->J.stop xs.length H
inductive tMI (K:aa) (ms:List Nat) (m:PEnv->Option (List PV)) (σ:St) (H:Hp) (R:It->Hp->Prop):Prop
 |mk F γ xs:Same F H->ERep K F σ γ ms->m γ=some xs->(∀J H' F',Grow F H F' H'->ItRep K J F' xs->R J H')->tMI K ms m σ H R
def IM(X:Cx)(ms:List Nat)(f iter:Expr)(m:PEnv->Option (List PV)):Prop:=PI X f iter (tMI X.K ms m)
def _root_.L2.PI.imp(h:PI X l e t)(i:∀f H R,t' f H R->t f H R):PI X l e t':=λj s f H R I q=>h j s f H R I (i f H R q)
def iLst(m:MEx):PEnv->Option (List PV):=λf=>(m f).bind λp=>match p with
 |.lst xs=>some xs
 |_=>none
def iTpl(m:MEx):PEnv->Option (List PV):=λf=>(m f).bind λp=>match p with
 |.tup xs=>some xs
 |_=>none
def im_lst(h:EM X ms e m):IM X ms M e (iLst m):=PI.imp (pi_list h) λO H R j=>by
 obtain⟨F,l,xs,h1,h2,B,w⟩:=j;obtain⟨p,e1,e2⟩:=Qb B;refine⟨F,l,p,h1,h2,e1,λv D T g q=>?_⟩;cases p with
 |lst ys =>
  cases e2;obtain⟨a,vs,rfl,k2,k3⟩:=q;refine⟨a,rfl,⟨vs,g.sub.seq k2⟩,w _ _ _ g ?_⟩;refine⟨λi H f e=>?_,λi H x D f e y=>?_,λH e=>?_⟩
  .have E:i<vs.length:=by rw[k3.length];exact f
   exact⟨vs,vs[i],e.seq k2,by simp[E]⟩
  .obtain⟨rfl,y⟩:=y;obtain⟨p,e2,e3⟩:=k3.back (y vs (e.seq k2));exact⟨p,e2,λI J L=>⟨I,.refl L,e3.mono J⟩⟩
  .exact⟨vs,e.seq k2,by rw[k3.length];grind⟩
 |_=>cases e2
def im_tup(h:EM X ms e m):IM X ms M e (iTpl m):=PI.imp (pi_tup h) λO H R j=>by
 obtain⟨F,l,xs,h1,h2,B,w⟩:=j;obtain⟨p,e1,e2⟩:=Qb B;refine⟨F,l,p,h1,h2,e1,λv D T g q=>?_⟩;cases p with
 |tup ys =>
  cases e2;obtain⟨a,vs,rfl,k2,k3⟩:=q;refine⟨a,rfl,⟨vs,g.sub.seqT k2⟩,w _ _ _ g ?_⟩;refine⟨λi H f e=>?_,λi H x D f e y=>?_,λH e=>?_⟩
  .have E:i<vs.length:=by rw[k3.length];exact f
   exact⟨vs,vs[i],e.seqT k2,by simp[E]⟩
  .obtain⟨rfl,y⟩:=y;obtain⟨p,e2,e3⟩:=k3.back (y vs (e.seqT k2));exact⟨p,e2,λI J L=>⟨I,.refl L,e3.mono J⟩⟩
  .exact⟨vs,e.seqT k2,by rw[k3.length];grind⟩
 |_=>cases e2
def rngL(lo f:Int):List PV:=(ao (f-lo).toNat).map λk=>.int (lo+(k:Nat))
def Qeh lo f:(rngL lo f).length=(f-lo).toNat:=by simp[rngL]
def Qlb{K:aa} lo l:ItRep K (Itr lo (l-lo).toNat) F (rngL lo l):=by
 refine⟨λi H f e=>?_,λi H x D f e y=>?_,λH e=>?_⟩
 .rw[Qeh]at f;exact f
 .obtain⟨rfl,rfl⟩:=y;rw[Qeh]at f;exact⟨.int (lo+i),by simp[rngL,f],λj E B=>⟨j,.refl B,Qp _⟩⟩
 .rw[Qeh];exact aB _
def rOk(j:Int):Bool:=cls (-(2^62)<=j/\j<2^62)
def Qbm(h:rOk j=true) : -(2^62)<=j/\j<2^62:=Qcr h
def Qkd(h1 : -(2^62)<=j)(h2:j<2^62):rOk j=true:=QeZ ⟨h1,h2⟩
def iRg1(m:MEx):PEnv->Option (List PV):=λf=>(m f).bind λp=>match p with
 |.int j=>if rOk j=true then some (rngL 0 j) else none
 |_=>none
def im_range1(f:Gl X "range")(hm:X.mg "range"=none)(l:AM X ms [a] (Qa m aNil))(B:ah [a] X.env=[(false,eval a X.env)]:=by rfl):IM X ms U (.Call (.Name "range" p2) [a] [] D) (iRg1 m) :=
 PI.imp (Qfr f hm l B) λY H R E=>by
  obtain⟨F,I,xs,h1,h2,J,w⟩:=E;obtain⟨p,e1,e2⟩:=Qb J;refine⟨F,I,[p],h1,h2,by simp[Qa,aNil,e1],λvs H' L g q=>?_⟩;obtain⟨v,t,rfl,q,M⟩:=q;subst M;cases p with
  |int j =>
   obtain⟨c,rfl⟩:=Qi e2;obtain⟨O,T⟩:=Qbm c;subst q;refine⟨j,rfl,O,T,w _ _ _ g ?_⟩;have:=Qlb (K:=X.K) (F:=L) 0 j;simpa using this
  |_=>cases e2
noncomputable def forL(g:PV->PEnv->Option PEnv)(b:MSt):List PV->PEnv->Option Out
 |[],f=>some (.nx f)
 | x::xs,f=>(g x f).bind λγ1=>(b γ1).bind λo=>match o with
  |.nx γ2=>forL g b xs γ2
  |.ct γ2=>forL g b xs γ2
  |.bk γ2=>some (.nx γ2)
  |.rt p=>some (.rt p)
  |.ro ys=>some (.ro ys)
def sFor(ms:List Nat)(l:PEnv->Option (List PV))(g:PV->PEnv->Option PEnv)(b:MSt):MSt:=λf=>(l f).bind λxs=>forL g b xs (frz ms f)
def QiC{K:aa}(I:SR K B f Y l L γ1)(it:ItRep K J Y xs)(e2:forL g sb xs γ1=some o)(ok:QnA K B f D o) :
  ∃W:Nat->Nat->St->Hp->Prop,(∃m,W 0 m l L)/\∀i m l H,W i m l H ->
   (J.stop i H/\D.nx l H)\/(J.go i H/\∃N ,(∀M L,N M L->∃m',m'<m/\W (i+1) m' M L)/\∀x L,J.yld i H x L->tMG K ts g x l L λO T=>tMS K sb { D with nx:=N,ct:=N,bk:=D.nx } O T):=by
 refine⟨λi m l H=>m=xs.length-i/\i<=xs.length/\∃F γ,SR K B f F l H γ/\Same Y F/\forL g sb (xs.drop i) γ=some o,⟨xs.length,by simp,cG _,Y,γ1,I,Same.refl _,by simpa using e2⟩,?_⟩;rintro i m O T ⟨rfl,hi,F2,γ2,U,x2,e2⟩;by_cases E:i<xs.length
 .refine .inr ⟨it.go i T E (x2.trans U.sub),λl H=>∃F γ,SR K B f F l H γ/\Same Y F/\forL g sb (xs.drop (i+1)) γ=some o,λM L q=>⟨xs.length-(i+1),by omega,rfl,E,q⟩,λx H3 y=>?_⟩;obtain⟨p,e3,hy⟩:=it.yld i T x H3 E (x2.trans U.sub) y;obtain⟨F3,g3,r3⟩:=hy F2 x2 U.sub;have S3:=U.grow g3;have ed:xs.drop i=p::xs.drop (i+1):=by
   have q:=(aw.mp e3)
   obtain⟨q1,q2⟩:=q;rw[<-q2];exact b7 q1
  rw[ed]at e2;obtain⟨av,e4,e2⟩:=Qb e2;obtain⟨ob,e5,e2⟩:=Qb e2;refine⟨B,f,F3,γ2,p,av,S3,r3,e4,λaz S4 _ _=>?_⟩;have x3 :=x2.trans g3.ext;refine⟨B,Y,F3,av,ob,S4.up I.f0 x3,e5,?_⟩;cases ob with
  |nx j=>exact λl H F S=>⟨F,j,S.down I.f0 I.fb,S.f0,e2⟩
  |ct j=>exact λl H F S=>⟨F,j,S.down I.f0 I.fb,S.f0,e2⟩
  |bk j =>
   cases e2;exact λl H F S=>ok l H F (S.down I.f0 I.fb)
  |rt p =>
   cases e2;exact λv H F gr r=>ok v H F (gr.down I.f0 I.fb) r
  |ro ys =>
   cases e2;exact λa vs H F gr n nF hH r=>ok a vs H F (gr.down I.f0 I.fb) n nF hH r
 .have e:i=xs.length:=by lia
  subst e;rw[gZ]at e2;cases e2;exact .inl ⟨it.stop T (x2.trans U.sub),ok O T F2 U⟩
def sm_for{X:Cx}{f:PEnv->Option (List PV)}(I:f7 (model X.prog X.w) X.A X.env X.xe)(hc:X.calm=true)(L:IM X ms l iter f)(M:GM X ts l g)(O:SMs X body sb)(T:∀x,cb iter X.env x=pure x:=by intro _;rfl):SM X (.For l iter body [] U) (sFor ms f g sb):=PS.imp (Qkf I hc L M O T) λD σ H Y=>by
 obtain⟨B,j,F,γ,o,S,e,ok⟩:=Y;obtain⟨xs,e1,e2⟩:=Qb e;obtain⟨F1,E,x1,er⟩:=S.see ms;exact⟨F1,γ,xs,E.sub,er,e1,λJ H' F' gr it=>QiC (E.grow gr) it e2 ok⟩
def Qcv(l:PEnv->Option (List PV))(g:PV->PEnv->Option PEnv)(b:MSt):MSt:=λf=>(l f).bind λxs=>forL g b xs f
def IMR(X:Cx)(ms:List Nat)(l iter:Expr)(m:PEnv->Option (List PV)):Prop:=PI X l iter λB H R=>∃F f xs,Same F H/\ERep X.K F B f ms/\m f=some xs/\∀J j,Same H j->(∀F,ItRep X.K J F xs)->R J j
def sm_forR{X:Cx}{f:PEnv->Option (List PV)}(I:f7 (model X.prog X.w) X.A X.env X.xe)(hc:X.calm=true)(L:IMR X ms l iter f)(M:GM X ts l g)(O:SMs X body sb)(T:∀x,cb iter X.env x=pure x:=by intro _;rfl):SM X (.For l iter body [] U) (Qcv f g sb):=PS.imp (Qkf I hc L M O T) λD σ H E=>by
 obtain⟨B,j,F,Y,o,S,e,ok⟩:=E;obtain⟨xs,e1,e2⟩:=Qb e;obtain⟨F1,S1,x1,er⟩:=S.see ms;exact⟨F1,Y,xs,S1.sub,er,e1,λJ H' sm it=>QiC (S.same sm) (it F) e2 ok⟩
def imr_range1(f:Gl X "range")(hm:X.mg "range"=none)(l:AM X ms [a] (Qa m aNil))(B:ah [a] X.env=[(false,eval a X.env)]:=by rfl):IMR X ms T (.Call (.Name "range" p2) [a] [] D) (iRg1 m) :=
 PI.imp (Qfr f hm l B) λU H R E=>by
  obtain⟨F,I,xs,h1,h2,J,w⟩:=E;obtain⟨p,e1,e2⟩:=Qb J;refine⟨F,I,[p],h1,h2,by simp[Qa,aNil,e1],λvs Y F' g q=>?_⟩;obtain⟨v,t,rfl,q,L⟩:=q;subst L;cases p with
  |int j =>
   obtain⟨c,rfl⟩:=Qi e2;obtain⟨M,O⟩:=Qbm c;subst q;refine⟨j,rfl,M,O,w _ _ g.same λF=>?_⟩;have:=Qlb (K:=X.K) (F:=F) 0 j;grind
  |_=>cases e2
def Qbr(t:PEnv->Option Bool)(b:MSt):Nat->PEnv->Option Out
 |0,_=>none
 | n+1,f=>(t f).bind λk=>if k=true then (b f).bind λo=>match o with
   |.nx γ2=>Qbr t b n γ2
   |.ct γ2=>Qbr t b n γ2
   |.bk γ2=>some (.nx γ2)
   |.rt p=>some (.rt p)
   |.ro ys=>some (.ro ys)
  else some (.nx f)
def QeO(N:Nat)(t:PEnv->Option Bool)(b:MSt):MSt:=Qbr t b N
def sm_while{X:Cx} N (O:f7 (model X.prog X.w) X.A X.env X.xe) (hc:TM X ms c t) (T:SMs X body sb):SM X (.While c body [] U) (QeO N t sb):=PS.imp (ps_while O hc T) λD E H Y=>by
 obtain⟨B,f,F,l,o,S,e,ok⟩:=Y;refine⟨λn E H=>∃F l,SR X.K B f F E H l/\Qbr t sb n l=some o,⟨N,F,l,S,e⟩,?_⟩;rintro n I H1 ⟨L,γ1,J,e1⟩;cases n with
 |zero=>cases e1
 |succ n =>
  obtain⟨k,e2,e1⟩:=Qb e1;obtain⟨F2,S2,x2,er⟩:=J.see ms;refine⟨F2,γ1,k,S2.sub,er,e2,λM F' g=>?_⟩;cases k with
  |true =>
   obtain⟨ob,e3,e1⟩:=Qb e1;refine⟨λE H=>∃F l,SR X.K B f F E H l/\Qbr t sb n l=some o,λav M q=>⟨n,cU n,q⟩,B,f,L,γ1,ob,J.same g.same,e3,?_⟩;cases ob with
   |nx j=>exact λE H F S=>⟨F,j,S,e1⟩
   |ct j=>exact λE H F S=>⟨F,j,S,e1⟩
   |bk j=>cases e1;exact ok
   |rt p=>cases e1;exact ok
   |ro ys=>cases e1;exact ok
  |false =>
   cases e1;exact ok I M L (J.same g.same)
end
def capS(f:PEnv)(j:Nat):mQ:=match getV f j with
 |some p=>.fz p
 |none=>.un
def blkG(nt:Nat)(f:List Nat)(l:PEnv):PEnv:=bS nt .un++f.map (capS l)
def YO(g:PV->PEnv->Option PEnv)(t:PEnv->Option Bool)(e:MEx)(f:PEnv):List PV->Option (List PV)
 |[]=>some []
 |x::xs=>(g x f).bind λγ1=>(t γ1).bind λk=>if k=true then (e γ1).bind λy=>(YO g t e f xs).map (y :: ·) else YO g t e f xs
def Qr(l:PEnv->Option (List PV))(nt:Nat)(f:List Nat)(g:PV->PEnv->Option PEnv)(t:PEnv->Option Bool)(e:MEx):PEnv->Option (List PV) :=
 λj=>(l j).bind λxs=>if xs.length<=LIM then YO g t e (blkG nt f j) xs else none
def QH:PEnv->Option Bool:=λ_=>some true
def IfM(X:Cx)(ms:List Nat)(f:List Expr)(t:PEnv->Option Bool):Prop:=PIfs X f (tMT X.K ms t)
def if_nil:IfM X [] [] QH:=λf s j H Q I ⟨F,B,r,h1,h2,l,w⟩=>pifs_nil f s j H Q I (by
 cases l;exact w H F (.refl h1))
def if_one(h:TM X ms c t):IfM X ms [c] t:=pifs_one h
def blk_sr{K:aa}(h:Same F H)(I:ERep K F D B f):SR K H F F (Xv nt f D) H (blkG nt f B):=by
 have key:∀i t,(blkG nt f B)[i]?=some t->t = .un\/∃j p,f[i-nt]?=some j/\nt<=i/\getV B j=some p/\t = .fz p:=λi t e=>by
  delta blkG at e;by_cases l:i<nt
  .rw[b6 (by simpa using l),dE,au l]at e;exact .inl (br e).symm
  .rw[c8 (by simpa using l),dg,aT]at e;cases q:f[i-nt]? with
   |none=>rw[q]at e;cases e
   |some j =>
    rw[q]at e;have e :=br e;unfold capS at e;split at e
    .rename_i p J;exact .inr ⟨j,p,rfl,by lia,J,e.symm⟩
    .exact .inl e.symm
 refine⟨h,Same.refl _,Same.refl _,λa o e=>.inl e,by simp[Xv,blkG],λi p e=>?_,λi xs e=>?_,λi j xs ys a _ e=>?_⟩
 .rcases key i _ e with z|⟨j,E,e1,l,e2,z⟩
  .cases z
  .cases z;obtain⟨v,h1,h2⟩:=I j (bT e1) p e2;refine⟨v,?_,h2⟩;delta Xv;rw[c8 (by simpa using l),dg,aT,e1];show some ((D[j]?).getD none)=some (some v);rw[h1];rfl
 .rcases key i _ e with z|⟨j,E,e1,l,e2,z⟩<;>cases z
 .rcases key i _ e with z|⟨L,E,e1,l,e2,z⟩<;>cases z
def Qem{f:PEnv}(h:∀(j:Nat) xs,f[j]?≠some (.ow xs)):∀(j:Nat) xs,(f.set i (.fz p))[j]?≠some (.ow xs):=λj xs e=>by
 by_cases z:i=j
 .subst z;by_cases l:i<f.length
  .rw[a0 l]at e;cases e
  .rw[bp (by simpa using l)]at e;cases e
 .rw[aA z]at e;exact h j xs e
def noOw_blk:∀(j:Nat) xs,(blkG nt f B)[j]?≠some (.ow xs):=λj xs e=>by
 delta blkG at e;by_cases l:j<nt
 .rw[b6 (by simpa using l),dE,au l]at e;cases e
 .rw[c8 (by simpa using l),dg,aT]at e;cases q:f[j-nt]? with
  |none=>rw[q]at e;cases e
  |some k =>
   rw[q]at e;have e :=br e;unfold capS at e;split at e<;>cases e
def NoOw(g:PV->PEnv->Option PEnv):Prop:=∀p l f,g p l=some f->(∀(j:Nat) xs,l[j]?≠some (.ow xs))->∀(j:Nat) xs,f[j]?≠some (.ow xs)
def noOw_gSet i:NoOw (gSet i):=λp j f e h=>by cases e;exact Qem h
def noOw_gSet2 i j:NoOw (Xg i j):=λp l f e h=>by
 delta Xg at e;split at e
 .cases e;exact Qem (Qem h)
 .cases e
section
def QfN{K:aa}{L M:Hp}{J:It}{σ:St}{γ:PEnv}{xs ys:List PV}{Qd:Addr->Hp->Prop}(av:∀i∈ts,i<nt)(az:NoOw g)(h1:Same L M)(er:ERep K L σ γ f)(it:ItRep K J L xs)(hl:xs.length<=LIM)(e:YO g t m (blkG nt f γ) xs=some ys)(w:∀D vs H2 F2,Grow L M F2 H2->M D=none->F2 D=none->H2 D=some (.lst vs)->RepL K F2 ys vs->Qd D H2) :
  Qfc J nt f (tMG K ts g) (tMT K ns t) (tM K ls m) σ M Qd:=by
 intro D hD;have aq :=h1.free hD;refine⟨λi k acc H=>k=xs.length-i/\i<=xs.length/\∃F ps rest,Grow L M F H/\F D=none/\H D=some (.lst acc)/\RepL K F ps acc/\YO g t m (blkG nt f γ) (xs.drop i)=some rest/\ps++rest=ys/\ps.length<=i,
  ⟨xs.length,by simp,cG _,L,[],ys,.side h1 hD,aq,Qf,.nil,by simpa using e,rfl,aB _⟩,?_⟩
 rintro i k acc H ⟨rfl,hi,F,ps,rest,gr,nF,hH,rp,e,ey,aJ⟩;by_cases l:i<xs.length
 .refine .inr ⟨it.go i H l (gr.ext.trans gr.sub),λx H3 y=>?_⟩;obtain⟨p,e3,hy⟩:=it.yld i H x H3 l (gr.ext.trans gr.sub) y;obtain⟨F3,O,r3⟩:=hy F gr.ext gr.sub;have ed:xs.drop i=p::xs.drop (i+1):=by
   obtain⟨q1,q2⟩:=aw.mp e3;rw[<-q2];exact b7 q1
  rw[ed]at e;obtain⟨B,e4,e⟩:=Qb e;obtain⟨b,e5,e⟩:=Qb e;have aj:=gr.trans O;have S3:=blk_sr (nt:=nt) O.sub (er.mono aj.ext);refine⟨H3,F3,F3,_,p,B,S3,r3,e4,λaZ S4 l4 k4=>⟨⟨l4,λn v hv=>?_⟩,?_⟩⟩
  .by_cases hn:n∈ts
   .have T:=av n hn;unfold Xv at hv;rw[b6 (by simpa using T),dE,au T]at hv;cases hv
   .rw[k4 n hn];exact hv
  .have U:=az p _ B e4 noOw_blk;refine⟨F3,B,b,O.sub,S4.erep λj _=>U j,e5,λH5 F5 g5=>?_⟩;have nD:∀{F' H':Hp},Grow F H F' H'->F' D=none:=λ{F' H'} gg=>by
    cases q:F' D with
    |none=>rfl
    |some o =>
     rcases gg.new D o q with z | z
     .rw[nF]at z;cases z
     .rw[hH]at z;cases z
   cases b with
   |true =>
    obtain⟨yv,e6,e⟩:=Qb e;obtain⟨I,e7,e8⟩:=Qw e;refine⟨F5,B,yv,g5.sub,(S4.erep λj _=>U j).mono g5.ext,e6,λv H6 F6 g6 q6=>?_⟩;have gg:=O.trans (g5.trans g6);have ak :=gg.same _ _ hH;have Y:=nD gg;refine⟨ak,?_,xs.length-(i+1),by lia,rfl,l,F6,ps++[yv],I,?_,Y,Qf,(rp.mono gg.ext).snoc q6,e7,?_,?_⟩
    .rw[rp.length];exact aF (by lia) Qv
    .have E:=gr.trans gg;refine⟨E.ext,λa o q=>?_,λa o q=>?_,E.new⟩
     .rw[Qh (Qg q Y)];exact E.sub a o q
     .rw[Qh (Qg q hD)];exact E.same a o q
    .rw[gC,fG,e8];exact ey
    .rw[aO,List.length_singleton];lia
   |false =>
    have gg:=O.trans g5;exact⟨xs.length-(i+1),by lia,rfl,l,F5,ps,rest,gr.trans gg,nD gg,gg.same _ _ hH,rp.mono gg.ext,e,ey,by lia⟩
 .have e':i=xs.length:=by lia
  subst e';rw[gZ]at e;cases e;rw[bu]at ey;subst ey;exact .inl ⟨it.stop H (gr.ext.trans gr.sub),w D acc H F gr hD nF hH rp⟩
def eo_comp(hc:X.calm=true)(ck:CompOk X.N X.env.scope scope L nt l)(M:∀i∈Y,i<nt)(O:NoOw g)(hi:IM X ms tg iter mi)(hg:∀f cl C s H B,GM (YC X f L (Qs X.env.scope scope) cl C s H B) Y tg g)(ht:∀f cl C s H B,IfM (YC X f L (Qs X.env.scope scope) cl C s H B) ns T t)(he:∀f cl C s H B,EM (YC X f L (Qs X.env.scope scope) cl C s H B) ls U m)(hs:∀x,cb iter X.env x=pure x:=by intro _;rfl)(I:relabel scope X.env=Qs X.env.scope scope:=by rfl) :
  EO X (ms++l) (.ListComp U [⟨tg,iter,T,0⟩] scope av) (Qr mi nt l g t m) :=
 PE.imp (pe_comp (g:=tMG X.K Y g) (tc:=tMT X.K ns t) (te:=tM X.K ls m) hc ck hi hg ht he hs I) λσ H Q zz=>by
  obtain⟨F,γ,ys,h1,h2,j,w⟩:=zz;obtain⟨xs,e1,j⟩:=Qb j;have hl:xs.length<=LIM:=by
   grind
  rw[au hl]at j;refine⟨F,γ,xs,h1,h2.left,e1,λJ H1 F1 E it=>?_⟩;exact QfN M O E.sub (h2.right.mono E.ext) it hl j λD vs H2 F2 g2 n nF hH q=>w D vs H2 F2 (E.trans g2) (E.same.free n) nF hH q
def Qhm(hN:X.N.Nodup)(U:X.N[i]?=some y)(hy:X.env.scope.names.lookup y=some .local)(hc:X.calm=true)(ck:CompOkC X.N X.env.scope scope Y nt l)(av:∀i∈ts,i<nt)(az:NoOw g)(hi:IM X ms tg iter mi)(hg:∀f cl C s H I,GM (Xa X (ownC scope) f Y (Qs X.env.scope scope) cl C s H I) ts tg g)(ht:∀f cl C s H I,IfM (Xa X (ownC scope) f Y (Qs X.env.scope scope) cl C s H I) ns L t)(he:∀f cl C s H I,EM (Xa X (ownC scope) f Y (Qs X.env.scope scope) cl C s H I) ls M m)(aq:cB (.ListComp M [⟨tg,iter,L,0⟩] scope aj) (some (.Name y py)) O.line X.env=pure true:=by rfl)(hs:∀x,cb iter X.env x=pure x:=by intro _;rfl)(T:relabel scope X.env=Qs X.env.scope scope:=by rfl) :
  SM X (.Assign [.Name y py] (.ListComp M [⟨tg,iter,L,0⟩] scope aj) O) (Qm (ms++l) i (Qr mi nt l g t m)) :=
 PS.imp (Qhr (g:=tMG X.K ts g) (tc:=tMT X.K ns t) (te:=tM X.K ls m) hN U hy hc ck hi hg ht he aq hs T) λD σ H zz=>by
  obtain⟨B,ak,F,γ,o,S,e,ok⟩:=zz;obtain⟨ys,j,e2⟩:=Qw e;subst e2;obtain⟨xs,e1,j⟩:=Qb j;have hl:xs.length<=LIM:=by
   grind
  rw[au hl]at j;obtain⟨F1,S1,x1,er⟩:=S.see (ms++l);refine⟨F1,γ,xs,S1.sub,er.left,e1,λJ H1 F2 E it=>?_⟩;refine QfN av az E.sub (er.right.mono E.ext) it hl j λD vs H2 F3 g2 n nF hH q=>?_;obtain⟨F4,S4⟩:=S.setNew x1 S1 (E.trans g2) (E.same.free n) nF hH q i;exact ok _ _ F4 S4
def Qjb(hN:X.N.Nodup)(O:X.N[i]?=some y)(hy:X.env.scope.names.lookup y=some .local)(hc:X.calm=true)(M:CompOk X.N X.env.scope scope T nt l)(U:∀i∈ts,i<nt)(Y:NoOw g)(hi:IM X ms tg iter mi)(hg:∀f cl C s H B,GM (YC X f T (Qs X.env.scope scope) cl C s H B) ts tg g)(ht:∀f cl C s H B,IfM (YC X f T (Qs X.env.scope scope) cl C s H B) ns D t)(he:∀f cl C s H B,EM (YC X f T (Qs X.env.scope scope) cl C s H B) ls I m)(av:cB (.ListComp I [⟨tg,iter,D,0⟩] scope az) (some (.Name y py)) J.line X.env=pure true:=by rfl)(hs:∀x,cb iter X.env x=pure x:=by intro _;rfl)(L:relabel scope X.env=Qs X.env.scope scope:=by rfl) :
  SM X (.Assign [.Name y py] (.ListComp I [⟨tg,iter,D,0⟩] scope az) J) (Qm (ms++l) i (Qr mi nt l g t m)):=Qhm hN O hy hc M.C U Y hi (by rw[M.eqC];exact hg) (by rw[M.eqC];exact ht) (by rw[M.eqC];exact he) av hs L
end
noncomputable def QQ(n:Nat)(ps:List PV):PEnv:=ps.map .fz++bS (n-ps.length) .un
noncomputable def outV:Out->Option PV
 |.nx _=>some .non
 |.rt p=>some p
 |.ro xs=>some (.lst xs)
 |_=>none
def outO:Out->Option (List PV)
 |.ro xs=>some xs
 |_=>none
def runV(N n:Nat)(m:MSt)(ps:List PV):Option PV:=if ps.length=n then (m (QQ N ps)).bind outV else none
def runO(N n:Nat)(m:MSt)(ps:List PV):Option (List PV):=if ps.length=n then (m (QQ N ps)).bind outO else none
def runV_len:∀ps r,runV N n m ps=some r->ps.length=n:=λps r h=>by
 grind[runV]
def QaI{K:aa}(h:Same F H)(r:RepL K F ps vs):SR K H F F (YN N vs) H (QQ N.length ps):=by
 have key:∀(i:Nat) t,(QQ N.length ps)[i]?=some t->t = .un\/∃p,ps[i]?=some p/\t = .fz p:=λi t e=>by
  delta QQ at e;by_cases f:i<ps.length
  .rw[b6 (by simpa using f),aT]at e;cases q:ps[i]? with
   |none=>rw[q]at e;cases e
   |some p=>rw[q]at e;exact .inr ⟨p,rfl,(br e).symm⟩
  .rw[c8 (by simpa using f),dE]at e;split at e
   .exact .inl (br e).symm
   .cases e
 refine⟨h,Same.refl _,Same.refl _,λa o e=>.inl e,?_,λi p e=>?_,λi xs e=>?_,λi j xs ys a _ e=>?_⟩
 .delta YN QQ;rw[aO,aO,ai,ai,dg,dg,r.length]
 .rcases key i _ e with z|⟨l,e1,z⟩
  .cases z
  .cases z;obtain⟨v,h1,h2⟩:=r.get e1;refine⟨v,?_,h2⟩;delta YN;have f :=(aw.mp h1).1;rw[b6 (by simpa using f),aT,h1];rfl
 .rcases key i _ e with z|⟨l,e1,z⟩<;>cases z
 .rcases key i _ e with z|⟨l,e1,z⟩<;>cases z
section
def fnM{P:aY}{K:aa}{st:Stmt}(M:Fun K x qual st f fd)(O:FnScope N ps (Qe st))(T:ps.length=n)(B:∀l A outer s H E,Room k (A.deeper (cM qual (Qe st) s.heap.objs.size f l)) ->
   SMs (cxOf CX0 P w K mg base N qual (Qe st) f l A outer s H E).nox (Qj st) m):FnOk P w K mg base CX0 (k+1) f fd ps (spM K n (runV N.length n m)):=by
 refine M.ok O (λvs H Q E h=>by rw[h.1,T]) λl A outer s H vs Q E hr h=>?_;refine⟨_,B l A outer s H E hr,?_⟩;obtain⟨hl,F,qs,r,h1,h2,I,J⟩:=h;delta runV at I;have U:qs.length=n:=by grind
 rw[au U]at I;obtain⟨o,e1,e2⟩:=Qb I;refine⟨H,F,F,_,o,QaI h1 h2,e1,?_⟩;cases o with
 |nx L=>cases e2;exact λY j D S=>J .non j D S.gr Qgw
 |rt p=>cases e2;exact λv j D g q=>J v j D g q
 |ro xs=>cases e2;exact λa vs j D g n nF hH q=>J.of_lst a vs j D g n nF hH q
 |_=>cases e2
def _root_.L2.FnOk.sw{P:aY}{K:aa}(F:FnOk P w K mg base CX0 k f fd ps (spM K n g))(h:∀qs r,l qs=some r->g qs=some r):FnOk P w K mg base CX0 k f fd ps (spM K n l) :=
 F.imp λvs H Q E j=>by obtain⟨hl,F,qs,r,h1,h2,B,D⟩:=j;exact⟨hl,F,qs,r,h1,h2,h qs r B,D⟩
end
section
def tyName:PV->String
 |.non=>"NoneType"
 |.bl _=>"bool"
 |.int _=>"int"
 |.str _=>"str"
 |.tup _=>"tuple"
 |.lst _=>"list"
 |.obj _ _ _=>"object"
 |.opq _=>"object"
def isO:PV->Bool
 |.obj _ _ _=>true
 |.opq _=>true
 |_=>false
def isInt:PV->Bool
 |.int _=>true
 |.bl _=>true
 |_=>false
def isBl:PV->Bool
 |.bl _=>true
 |_=>false
def Qnu:PV->Bool
 |.str _=>true
 |_=>false
def isTup:PV->Bool
 |.tup _=>true
 |_=>false
def Qnv:PV->Bool
 |.lst _=>true
 |_=>false
def Isi(T:String)(f:PV->Bool):Prop:=∀p K,isO p=false->PySem.W.kitOne K (.type (tyName p)) (.type T)=some (f p)
def isi_str:Isi "str" Qnu:=λp K ho=>by cases p<;>first | (cases ho;done) | kernel_rfl
def isi_lst:Isi "list" Qnv:=λp K ho=>by cases p<;>first | (cases ho;done) | kernel_rfl
def Qjt(I:Inv X B L H s)(D:Same F H)(J:Isi T f)(r:Rep X.K F q v)(l:RelV v u)(ho:isO q=false)(h:∀tk,Q (.bool (f q)) { s with toks:=tk }):aE (model X.prog X.w) A (call (.builtin "isinstance") [u,.type T]) Q E s:=by
 have e:=J q X.K ho;cases q with
 |non=>subst r;cases l;exact eB PySem.W.kitx_none I.kIn hG e (λz=>nomatch z) h
 |bl y=>subst r;cases l;exact eB PySem.W.kitx_bool I.kIn hG e (λz=>nomatch z) h
 |int y=>subst r;obtain⟨t,rfl⟩:=l;exact eB PySem.W.kitx_int I.kIn hG e (λz=>nomatch z) h
 |str y=>subst r;obtain⟨t,rfl⟩:=l;exact eB PySem.W.kitx_str I.kIn hG e (λz=>nomatch z) h
 |tup ys =>
  obtain⟨a,vs,rfl,k2,_⟩:=r;cases l;obtain⟨j,_,⟨o,ho,hc,_⟩,_⟩:=I.tuple (D.seqT k2);exact eB PySem.W.kitx_tuple I.kIn ⟨o,ho,hc⟩ e (λz=>nomatch z) h
 |lst ys =>
  obtain⟨a,vs,rfl,k2,_⟩:=r;cases l;obtain⟨j,_,⟨o,n,ho,hc,_⟩,_⟩:=I.list (D.seq k2);exact eB PySem.W.kitx_list I.kIn ⟨o,ho,hc⟩ e (λz=>nomatch z) h
 |_=>cases ho
def QhP(B:Isi T f):YQ X (.builtin "isinstance") (λvs H Q=>∃F v q,vs=[v,.ty T]/\Same F H/\Rep X.K F q v/\isO q=false/\Q (.bl (f q)) H):=by
 intro l s J H vs us Q I rs h;obtain⟨F,v,q,rfl,h1,h2,ho,D⟩:=h;obtain⟨u,w,rfl,E,j⟩:=vals2 rs;obtain rfl:w=Value.type T:=j;exact Qjt I h1 B h2 E ho λtk=>⟨.bl (f q),H,I.tok tk,rfl,D⟩
def isiK(f:PV->Bool)(q:PV):Option PV:=if isO q=false then some (.bl (f q)) else none
def mIsi(f:PV->Bool)(m:MEx):MEx:=λj=>(m j).bind (isiK f)
def em_isinst(Y:Isi T f)(h:EM X ms e m)(hg:Gl X "isinstance")(hm:X.mg "isinstance"=none)(D:Gl X x)(I:X.mg x=none)(J:cI x=some (.type T))(hn:x≠"__name__":=by decide)(L:(x=="__debug__")=false:=by decide)(l:ah (e::[.Name x B]) X.env=(false,eval e X.env)::ah [.Name x B] X.env:=by rfl)(M:ah [.Name x B] X.env=(false,eval (.Name x B) X.env)::ah [] X.env:=by rfl)(O:(bx U (ah [.Name x B] X.env)).any (·.1)=false:=by rfl) :
  EM X ms (.Call (.Name "isinstance" p2) [e,.Name x B] [] U) (mIsi f m) :=
 PE.imp (YF (QhP Y) hg hm (by kernel_rfl) (ZK h (ZK (QkN (v := .ty T) D I J rfl hn L) Qav M) l) (by decide) (by decide) l O) λσ H Q E=>by
  obtain⟨F,γ,r,k1,k2,k3,w⟩:=E;obtain⟨q,e1,e2⟩:=Qb k3;obtain⟨ho,e2⟩:=Qi (e2);subst e2;exact⟨F,γ,q,k1,k2,e1,λv H1 F1 j q1=>⟨F1,v,q,rfl,j.sub,q1,ho,(w.go j).here j.sub (QB _)⟩⟩
def pLen:List PV->Option PV
 |[.lst xs]=>some (.int xs.length)
 |[.tup xs]=>some (.int xs.length)
 |[.str z]=>if z.length<=LIM then some (.int z.length) else none
 |_=>none
set_option tactic.hygienic true in
def cm_len:QeH X (.builtin "len") pLen:=by
 intro j s B H vs us Q I rs h;obtain⟨F,ps,r,h1,h2,f,w⟩:=h;refine call_len j s B H vs us Q I rs ?_;delta pLen at f;split at f
 .cases f;obtain⟨v,t,rfl,h2,l⟩:=h2;subst l;obtain⟨a,us,rfl,k2,k3⟩:=h2;exact⟨.ref a,_,rfl,.inl ⟨us,h1.seq k2,k3.length.symm⟩,w.here h1 (Qp _)⟩
 .cases f;obtain⟨v,t,rfl,h2,l⟩:=h2;subst l;obtain⟨a,us,rfl,k2,k3⟩:=h2;exact⟨.ref a,_,rfl,.inr ⟨us,h1.seqT k2,k3.length.symm⟩,w.here h1 (Qp _)⟩
 .rename_i z;obtain⟨c,rfl⟩:=Qi f;obtain⟨v,t,rfl,h2,l⟩:=h2;subst l;subst h2;exact⟨.str z,_,rfl,⟨aS c Qv,rfl⟩,w.here h1 (Qp _)⟩
 .cases f
def QbM:List PV->Option (List PV)
 |[.lst xs]=>some xs
 |[.tup xs]=>some xs
 |_=>none
def YI:List PV->Option PV
 |[.lst xs]=>some (.tup xs)
 |[.tup xs]=>some (.tup xs)
 |_=>none
def co_list:QhT X (.type "list") QbM:=by
 intro f s D H vs us Q I rs h;obtain⟨F,ps,r,h1,h2,j,w⟩:=h;refine Qgo f s D H vs us Q I rs ?_;delta QbM at j;split at j
 .cases j;obtain⟨v,t,rfl,h2,B⟩:=h2;subst B;obtain⟨a,us,rfl,k2,k3⟩:=h2;exact⟨a,us,rfl,.inl (h1.seq k2),λl hl=>w l us _ F (.side h1 hl) hl (h1.free hl) Qf k3⟩
 .cases j;obtain⟨v,t,rfl,h2,B⟩:=h2;subst B;obtain⟨a,us,rfl,k2,k3⟩:=h2;exact⟨a,us,rfl,.inr (h1.seqT k2),λl hl=>w l us _ F (.side h1 hl) hl (h1.free hl) Qf k3⟩
 .cases j
def cm_tuple:QeH X (.type "tuple") YI:=by
 intro f s D H vs us Q I rs h;obtain⟨F,ps,r,h1,h2,j,w⟩:=h;refine QeL f s D H vs us Q I rs ?_;delta YI at j;split at j
 .cases j;obtain⟨v,t,rfl,h2,B⟩:=h2;subst B;obtain⟨a,us,rfl,k2,k3⟩:=h2;refine⟨a,us,rfl,.inl ⟨h1.seq k2,λl hl=>w _ _ _ (.laid h1 hl) ?_⟩⟩;exact⟨l,us,rfl,.of Qf,k3.mono (Grow.laid h1 hl).ext⟩
 .cases j;obtain⟨v,t,rfl,h2,B⟩:=h2;subst B;obtain⟨a,us,rfl,k2,k3⟩:=(by exact h2)
  exact⟨a,us,rfl,.inr ⟨h1.seqT k2,w.here h1 h2⟩⟩
 .cases j
def pMin:List PV->Option PV
 |[.int i,.int j]=>some (.int (if j<i then j else i))
 |_=>none
def cm_min(hc:X.calm=true):QeH X (.builtin "min") pMin:=by
 intro f s D H vs us Q I rs h;obtain⟨F,ps,r,h1,h2,j,w⟩:=h;refine QmZ hc f s D H vs us Q I rs ?_;delta pMin at j;split at j
 .cases j;obtain⟨v,t,rfl,h2,l⟩:=h2;obtain⟨E,t',rfl,B,l⟩:=l;subst l;subst h2 B;exact⟨_,_,rfl,w.here h1 (Qp _)⟩
 .cases j
end
def QbG:List PV->Option (List Int)
 |[]=>some []
 |.int i::xs=>(QbG xs).map (i :: ·)
 |_::_=>none
def strs?:List PV->Option (List Str)
 |[]=>some []
 |.str i::xs=>(strs? xs).map (i :: ·)
 |_::_=>none
def Qmu ns:QbG (ns.map .int)=some ns:=by
 induction ns with
 |nil=>rfl
 |cons n ns f=>simp[QbG,f]
def strs?_map ns:strs? (ns.map .str)=some ns:=by
 induction ns with
 |nil=>rfl
 |cons n ns f=>simp[strs?,f]
theorem QfC:∀{xs:List PV}{ns:List Int},QbG xs=some ns->xs=ns.map .int
 |[],ns,h=>by cases h;rfl
 |x::xs,ns,h=>by
  cases x with
  |int i =>
   unfold QbG at h;cases e:QbG xs with
   |none=>rw[e]at h;cases h
   |some ms=>rw[e]at h;cases h;rw[QfC e];rfl
  |_=>cases h
theorem XB:∀{xs:List PV}{ns:List Str},strs? xs=some ns->xs=ns.map .str
 |[],ns,h=>by cases h;rfl
 |x::xs,ns,h=>by
  cases x with
  |str i =>
   unfold strs? at h;cases e:strs? xs with
   |none=>rw[e]at h;cases h
   |some ms=>rw[e]at h;cases h;rw[XB e];rfl
  |_=>cases h
theorem Qfq{K:aa}:∀{ns:List Int}{vs:List V},RepL K F (ns.map .int) vs->vs=ns.map V.int
 |[],vs,h=>by grind[RepL]
 |n::ns,vs,h=>by
  obtain⟨v,r,rfl,h2,f⟩:=h;rw[h2,Qfq f];rfl
theorem Qbu{K:aa}:∀(ns:List Int),RepL K F (ns.map .int) (ns.map V.int)
 |[]=>.nil
 |n::ns=>.cons (Qp n) (Qbu ns)
theorem YS{K:aa}:∀{ns:List Str}{vs:List V},RepL K F (ns.map .str) vs->vs=ns.map V.str
 |[],vs,h=>by grind[RepL]
 |n::ns,vs,h=>by
  obtain⟨v,r,rfl,h2,f⟩:=h;rw[h2,YS f];rfl
theorem Yz{K:aa}:∀(ns:List Str),RepL K F (ns.map .str) (ns.map V.str)
 |[]=>.nil
 |n::ns=>.cons (Qap n) (Yz ns)
theorem Yy:∀{ns:List Str}{us:List Value},Vals (ns.map V.str) us->jV us ns
 |[],us,r=>by cases r;exact .nil
 |n::ns,us,r=>by
  cases r with
  |cons f j =>
   obtain⟨t,e⟩:=f;subst e;exact .cons n t (Yy j)
def QcB:∀{vs:List Value}{ns:List Str},jV vs ns->Vals (ns.map V.str) vs:=by
 intro vs ns h;induction h with
 |nil=>exact .nil
 |cons n t h f=>exact .cons ⟨t,rfl⟩ f
section
noncomputable def Qdc(ns:List Int):List Int:=ns.mergeSort λa b=>decide (a<=b)
def Qjs ns:(Qdc ns).Perm ns:=iH _ _
def isort_le ns:(Qdc ns).Pairwise (· <= ·):=by
 have:=gW (le:=λ(a b)=>decide (a<=b)) (λa b c h1 h2=>by grind) (by grind) ns;exact this.imp λh=>by grind
def Qix{ns ms:List Int}(f:ms.Perm ns)(l:ms.Pairwise (· <= ·)):ms=Qdc ns :=
 eU (λx y _ _ h1 h2=>Int.le_antisymm h1 h2) l (isort_le ns) (f.trans (Qjs ns).symm)
noncomputable def sLe(a b:Str):Bool := !decide (b.cps.toList<a.cps.toList)
def QA(ns:List Str):List Str:=ns.mergeSort sLe
def lt_tri(a b:List Nat)(h1:¬a<b)(h2:¬b<a):a=b:=by
 grind
def QcG a b c (h1:sLe a b=true) (h2:sLe b c=true):sLe a c=true:=by
 delta sLe at *;simp at *;have f :=h1;have j :=h2;exact List.le_trans f j
def Qfn a b:(sLe a b||sLe b a)=true:=by
 delta sLe;grind
def Qeg{a b:Str}(h1:sLe a b=true)(h2:sLe b a=true):a=b:=by
 delta sLe at *;simp at *;have e:=lt_tri _ _ h2 h1;obtain⟨a⟩:=a;obtain⟨b⟩:=b;have f :=by simpa using e
 rw[f]
theorem Qk ns:(QA ns).Perm ns:=iH _ _
def QbU ns:(QA ns).Pairwise (λa b=>sLe a b=true):=gW QcG Qfn ns
def Xd{ns ms:List Str}(f:ms.Perm ns)(l:ms.Pairwise (λa b=>sLe a b=true)):ms=QA ns :=
 eU (λx y _ _ h1 h2=>Qeg h1 h2) l (QbU ns) (f.trans (Qk ns).symm)
theorem XY:∀l x,risingS x l=true->(x::l).Pairwise (λa b=>sLe a b=true)
 |[],x,_=>by simp
 |y::l,x,h=>by
  unfold risingS at h;rw[aN,ltCps_eq]at h;have f:=XY l y h.2;have h1 :=h.1;rw[cx]at f |-;refine⟨λz hz=>?_,by rw[cx];exact f⟩;rcases ap.mp hz with rfl | hz
  .exact h1
  .exact QcG _ _ _ h1 (f.1 z hz)
def YD l (h:sortedS l=true):l.Pairwise (λa b=>sLe a b=true):=by
 cases l with
 |nil=>simp
 |cons x l=>exact XY l x h
def QeF:List PV->Option (List PV)
 | [.lst xs]=>match QbG xs with
  |some ns=>if ns.length<64 then some ((Qdc ns).map .int) else none
  | none=>match strs? xs with
   |some ss=>if ss.length<64 then some ((QA ss).map .str) else none
   |none=>none
 |_=>none
set_option tactic.hygienic true in
def co_sorted:QhT X (.builtin "sorted") QeF:=by
 intro B s σ H vs us Q I rs h;obtain⟨F,ps,r,h1,h2,l,w⟩:=h;delta QeF at l;split at l
 .obtain⟨v,t,rfl,h2,ht⟩:=h2;subst ht;obtain⟨a,ws,rfl,k2,k3⟩:=h2;obtain⟨u,rfl,ru⟩:=Yq rs;cases ru;obtain⟨D,L,pl,_⟩:=I.list (h1.seq k2);have E:∀f ys M,Vals ys f.toList->ys.length<=aI->RepL X.K F M ys->M=r->EP X B σ Q (.ref (s.heap.objs.size+1)) { s with heap:=sortedAll s.heap D f }:=λf ys M hv hz hr e=>by
   subst e;obtain⟨k,he⟩:=sortedAll_at s.heap D f;have O :=I.hok.fresh (dy _);refine⟨.ref (s.heap.objs.size+1),upd H (s.heap.objs.size+1) (.lst ys),I.laid (λb o q=>sortedAll_old q) (dy _) ⟨hz,f.toList,k,hv,?_⟩,rfl,?_⟩
   .simpa[cQ] using he
   .exact w _ ys _ F (.side h1 O) O (h1.free O) Qf hr
  split at l
  .rename_i ns T;obtain⟨c,rfl⟩:=Qi l;have e2:=QfC T;subst e2;have e3:=Qfq k3;subst e3;have hl:=L.length;rw[ai]at hl;refine sorted_ints pl.isList (Qjw L) (by lia) λf j U J Y=>?_;have e4:=Qix J Y;refine E f (j.map V.int) (j.map .int) (Qff U) ?_ (Qbu j) (by rw[e4]);rw[ai,J.length_eq];exact b8 (ft c (by decide))
  .split at l
   .rename_i ss av;obtain⟨c,rfl⟩:=Qi l;have e2:=XB av;subst e2;have e3:=YS k3;subst e3;have hl:=L.length;rw[ai]at hl;refine sorted_strs pl.isList (Yy L) (by lia) λf j U J Y=>?_;have e4:=Xd J (YD _ Y);refine E f (j.map V.str) (j.map .str) (QcB U) ?_ (Yz j) (by rw[e4]);rw[ai,J.length_eq];exact b8 (ft c (by decide))
   .cases l
 .cases l
def rMt(K:aa)(g:PV->List PV->Option PV):V->List V->Hp->VK->Prop:=λx vs H Q=>∃F p ps r,Same F H/\Rep K F p x/\RepL K F ps vs/\g p ps=some r/\Wv K F H r Q
def rMtO(K:aa)(g:PV->List PV->Option (List PV)):V->List V->Hp->VK->Prop:=λx vs H Q=>∃F p ps r,Same F H/\Rep K F p x/\RepL K F ps vs/\g p ps=some r/\Wo K F H r Q
noncomputable def tyOk(T:String):PV->Bool
 |.str _=>T=="str"
 |.int _=>T=="int"
 |.lst _=>T=="list"
 |_=>false
def mMt(T:String)(g:PV->List PV->Option α)(m:MEx)(l:PEnv->Option (List PV)):PEnv->Option α:=λf=>(m f).bind λp=>if tyOk T p=true then (l f).bind λps=>g p ps else none
def Qgs{K:aa}{p:PV}(h:Same F H)(r:Rep K F p v)(t:tyOk T p=true):tyV K T v H:=by
 cases p with
 |str z=>subst r;exact kK t
 |int z=>subst r;exact kK t
 |lst xs=>obtain⟨a,vs,rfl,k2,_⟩:=r;exact .inl ⟨kK t,vs,h.seq k2⟩
 |_=>cases t
def em_mt(h:EM X ms o m)(ha:AM X ns (e::D) I)(L:PE X (.Call (.Attribute o name f) (e::D) [] l) (tBM X.K T (rMt X.K g) (tM X.K ms m) (tMA X.K ns I))):EM X (ms++ns) (.Call (.Attribute o name f) (e::D) [] l) (mMt T g m I) :=
 PE.imp L λσ H Q M=>by
  obtain⟨F,E,r,k1,k2,k3,w⟩:=M;obtain⟨p,e1,k3⟩:=Qb k3;have c:tyOk T p=true:=by
   grind
  rw[au c]at k3;obtain⟨ps,e2,k3⟩:=Qb k3;refine⟨F,E,p,k1,k2.left,e1,λv H1 O j J=>⟨Qgs j.sub J c,O,E,ps,j.sub,k2.right.mono j.ext,e2,λvs H2 U B Y=>?_⟩⟩;exact⟨U,p,ps,r,B.sub,J.mono B.ext,Y,k3,w.go (j.trans B)⟩
def eo_mt(h:EM X ms o m)(ha:AM X ns (e::D) I)(L:PE X (.Call (.Attribute o name f) (e::D) [] l) (tBM X.K T (rMtO X.K g) (tM X.K ms m) (tMA X.K ns I))):EO X (ms++ns) (.Call (.Attribute o name f) (e::D) [] l) (mMt T g m I) :=
 PE.imp L λσ H Q M=>by
  obtain⟨F,E,r,k1,k2,k3,w⟩:=M;obtain⟨p,e1,k3⟩:=Qb k3;have c:tyOk T p=true:=by
   grind
  rw[au c]at k3;obtain⟨ps,e2,k3⟩:=Qb k3;refine⟨F,E,p,k1,k2.left,e1,λv H1 O j J=>⟨Qgs j.sub J c,O,E,ps,j.sub,k2.right.mono j.ext,e2,λvs H2 U B Y=>?_⟩⟩;exact⟨U,p,ps,r,B.sub,J.mono B.ext,Y,k3,w.go (j.trans B)⟩
def mMt0(T:String)(g:PV->List PV->Option α)(m:MEx):PEnv->Option α:=λf=>(m f).bind λp=>if tyOk T p=true then g p [] else none
def em_mt0(h:EM X ms o m)(D:PE X (.Call (.Attribute o name f) [] [] l) (tBM0 X.K T (rMt X.K g) (tM X.K ms m))):EM X ms (.Call (.Attribute o name f) [] [] l) (mMt0 T g m) :=
 PE.imp D λL H Q E=>by
  obtain⟨F,I,r,k1,k2,k3,w⟩:=E;obtain⟨p,e1,k3⟩:=Qb k3;have c:tyOk T p=true:=by
   by_cases c:tyOk T p=true
   .exact c
   .rw[aK c]at k3;cases k3
  rw[au c]at k3;refine⟨F,I,p,k1,k2,e1,λv M J j B=>⟨Qgs j.sub B c,J,p,[],r,j.sub,B,.nil,k3,w.go j⟩⟩
def Qhw:PV->List PV->Option PV
 |.int i,[]=>some (.int (gE i))
 |_,_=>none
def mm_bits:MtR X "int.bit_length" (rMt X.K Qhw):=by
 intro j s D H x xs v us Q I l rs h;obtain⟨F,p,ps,r,h1,h2,B,f,w⟩:=h;delta Qhw at f;split at f
 .cases f;subst h2;obtain⟨t,rfl⟩:=l;subst B;cases rs;exact call_int_bit_length ⟨.int _,H,I.tok _,⟨_,rfl⟩,w.here h1 (Qp _)⟩
 .cases f
def em_bits(h:EM X ms o m)(f:bW o "bit_length" X.env (eval o X.env)=eval o X.env:=by rfl)(l:(B.endLine==D.line)=true:=by rfl):EM X ms (.Call (.Attribute o "bit_length" B) [] [] D) (mMt0 "int" Qhw m) :=
 em_mt0 h (pe_bm0 PySem.F.plainAttrs_int slot_int_bit_length type_int_bit_length mm_bits h f l)
def Qbi:PV->List PV->Option PV
 | .str x,[.lst xs]=>match strs? xs with
  |some ys=>if (ys.map (·.length)).sum+ys.length*x.length<=LIM then some (.str (a5 x ys)) else none
  |none=>none
 |_,_=>none
set_option tactic.hygienic true in
def mm_join:MtR X "str.join" (rMt X.K Qbi):=by
 intro B s T H x xs v us Q I D rs h;obtain⟨F,p,ps,r,h1,h2,j,f,w⟩:=h;delta Qbi at f;split at f
 .split at f
  .rename_i ys l;obtain⟨c,rfl⟩:=Qi f;subst h2;obtain⟨t,rfl⟩:=D;obtain⟨U,Y,rfl,j,E⟩:=j;subst E;obtain⟨a,ws,rfl,k2,k3⟩:=j;obtain⟨u,rfl,J⟩:=Yq rs;cases J;have e2:=XB l;subst e2;have e3:=YS k3;subst e3;obtain⟨L,M,O,_⟩:=I.list (h1.seq k2);refine join_list O.isList (by simpa using Yy M) (aS c (by decide)) λt' k=>⟨.str _,H,I.tok _,⟨_,rfl⟩,w.here h1 (Qap _)⟩
  .cases f
 .cases f
def em_join(h:EM X ms o m)(M:AM X ns (e::I) O)(B:bW o "join" X.env (eval o X.env)=eval o X.env:=by rfl)(J:((bx f (ah (e::I) X.env)).all (λx => !x.1)&&(dI f (ce [] X.env)).all (λx=>x.1.isSome)
   && decide ((e::I).length+([]:List d4).length+(if ([]:List d4).isEmpty then 0 else 1)<30))=true:=by rfl)(D:(L.endLine==f.line)=true:=by rfl)(T:ah (e::I) X.env=(false,eval e X.env)::ah I X.env:=by rfl)(l:(bx f (ah I X.env)).any (·.1)=false:=by rfl) :
  EM X (ms++ns) (.Call (.Attribute o "join" L) (e::I) [] f) (mMt "str" Qbi m O) :=
 em_mt h M (QfX fq kx kw mm_join h M B J D T l)
def rSlS:V->Option Int->Option Int->Hp->VK->Prop:=λx lo f H Q=>∃z,x = .str z/\z.length<=aI/\Q (.str (cg z lo f)) H
def Qju{h:Heap}{a:Addr}{lo B:Option Int}(f:h.IsSliceOf a I J .none)(L:IsPart I lo)(D:IsPart J B):∃l u,h.IsSlice a l u none/\l.map (·.1)=lo/\u.map (·.1)=B:=by
 cases L with
 |none =>
  cases D with
  |none=>exact⟨none,none,f,rfl,rfl⟩
  |int j t=>exact⟨none,some (j,t),f,rfl,rfl⟩
 |int i t' =>
  cases D with
  |none=>exact⟨some (i,t'),none,f,rfl,rfl⟩
  |int j t=>exact⟨some (i,t'),some (j,t),f,rfl,rfl⟩
def sl_str:SlR X rSlS:=by
 intro j s L H x v M O lo T U Q I B D E J h;obtain⟨z,rfl,hz,q⟩:=h;obtain⟨t,rfl⟩:=B;obtain⟨l,u,f,rfl,rfl⟩:=Qju D E J;refine⟨"str",_,PySem.F.slot_str_getitem.lookup,iB _ _ _,wpAny_getItem_str_slice f rfl ?_⟩;exact post_val_or_str ⟨aS (Txt.slice_le z _ _) hz,λt' k=>⟨.str _,H,I.tok _,⟨_,rfl⟩,q⟩⟩
def ZV:PV->Option Int->Option Int->Option PV
 |.str z,lo,f=>if z.length<=LIM then some (.str (cg z lo f)) else none
 |_,_,_=>none
def em_cutS{X:Cx}{lo:Option Expr}(he:EM X ms e m)(hl:OM X ns lo I)(J:OM X ls L M):EM X (ms++(ns++ls)) (.Subscript e (.Slice lo L none p2) O) (sl3 ZV m I M):=by
 refine PE.imp (Qii sl_str he hl J) λσ H Q E=>?_;obtain⟨F,B,r,h1,h2,f,w⟩:=E;obtain⟨x,e1,f⟩:=Qb f;obtain⟨l,e2,f⟩:=Qb f;obtain⟨h,e3,f⟩:=Qb f;refine⟨F,B,x,h1,h2.left,e1,λvx H1 T j U=>⟨T,B,l,j.sub,h2.right.left.mono j.ext,e2,λH2 Y D=>⟨Y,B,h,D.sub,h2.right.right.mono (j.ext.trans D.ext),e3,λH3 F3 g3=>?_⟩⟩⟩;have g:=j.trans (D.trans g3);cases x with
 |str z =>
  obtain⟨c,rfl⟩:=Qi f;exact⟨z,U,aS c Qv,(w.go g).here g.sub (Qap _)⟩
 |_=>cases f
end
def Qcq(N:List Str)(osc scope:fN)(l:List Str)(nt:Nat)(f:List Nat):Bool :=
 (scope.kind==.function)&&scope.names.all (λx=>x.2 != cV)&&scope.names.all (λx=>x.2 != i8.local||scope.names.lookup x.1==some .local) &&
 scope.names.all (λx=>x.2 != i8.free||(osc.names.lookup x.1==some .cell||osc.names.lookup x.1==some .free))&&(l.length==nt+f.length) &&
 (f.zip (l.drop nt)).all (λp=>N[p.1]?==some p.2&&scope.names.lookup p.2==some i8.free)
def QmX(h:Qcq N osc scope l nt f=true):CompOk N osc scope l nt f:=by
 delta Qcq at h;simp only[aN,bf,dR,bne_iff_ne,bg]at h;obtain⟨⟨⟨⟨⟨h1,h2⟩,B⟩,D⟩,E⟩,H⟩:=h;refine⟨h1,h2,λx j e=>?_,λx j e=>?_,E,H⟩
 .rcases B x j with z | z
  .exact absurd e z
  .exact z
 .rcases D x j with z | z
  .exact absurd e z
  .exact z
def ck_of{X:Cx}(h1:X.N=N)(h2:X.env.scope=osc)(h:Qcq N osc scope l nt f=true):CompOk X.N X.env.scope scope l nt f:=by
 rw[h1,h2];exact QmX h
def Cal(P:aY)(w:cf)(K:aa)(mg:Str->Option Value)(base:Heap)(k:Nat)(x:Str)(n:Nat)(g:List PV->Option PV):Prop :=
 ∃f fd ps,FnOk P w K mg base CX0 k f fd ps (spM K n g)/\mg x=some (.ref f)/\bX K (.ref f)=true/\Zp K fd ps []
section
def em_cal(c:Cal X.prog X.w X.K X.mg X.base k x n g)(J:∀ps r,g ps=some r->ps.length=n)(hr:Room k X.A)(L:Gl X x)(M:AM X ms (e::l) O)(B:(x=="__debug__")=false:=by decide)(he:ah (e::l) X.env=(false,eval e X.env)::ah l X.env:=by rfl)(D:(bx I (ah l X.env)).any (·.1)=false:=by rfl) :
  EM X ms (.Call (.Name x p) (e::l) [] I) (Qc g O):=by
 obtain⟨f,fd,ps,F,hm,j,E⟩:=c;exact em_call F J hr L hm j E M B he D
def QiS(h:EM X ms e m)(f:ah [e] X.env=(false,eval e X.env)::ah [] X.env:=by rfl):PA X [e] (tMA X.K ms (Qa m aNil)):=by
 have z:=am_cons h am_nil f;unfold AM at z;rw[bu]at z;exact z
def law_sp{K:aa}{ns:List Int}(h:∀ns:List Int,ns.length<=63->g [.lst (ns.map .int)]=some (.bl true))(hl:ns.length<=63)(f:SqL K H a (ns.map V.int)) :
  spM K 1 g [.ref a] H (λv _=>v = .bl true) E:=by
 refine⟨rfl,H,[.lst (ns.map .int)],.bl true,Same.refl _,.cons ?_ .nil,h ns hl,λv j l _ r=>?_⟩
 .exact⟨a,ns.map V.int,rfl,f,Qbu ns⟩
 grind[Rep]
end
noncomputable def pN(n:Nat):PV := .int n
def mN(n:Nat):MEx:=mC (pN n)
def Qdi:List PV->Option (List PV)
 |[.lst xs]=>some (xs.zipIdx.map λx=>.tup [pN x.2,x.1])
 |_=>none
def QbN:List PV->Option (List PV)
 |[.tup xs]=>some (xs.zipIdx.map λx=>.tup [pN x.2,x.1])
 |_=>none
def iSeq(m:MEx):PEnv->Option (List PV):=λf=>(m f).bind λp=>match p with
 |.lst xs=>some xs
 |.tup xs=>some xs
 |_=>none
def pRev:List PV->Option (List PV)
 |[.lst xs]=>some xs.reverse
 |_=>none
def Qnn:List PV->Option PV
 |[.lst xs]=>some (.tup xs.reverse)
 |_=>none
noncomputable def once{α:Type}[BEq α]:List α->List α
 |[]=>[]
 |x::xs=>x::(once xs).filter λy => !(y==x)
def Up(xs:Array Nat):Prop:=xs.toList.Pairwise (· < ·)
def Up.get(h:Up xs){i k:Nat}(f:i<k)(l:xs[i]?=some x)(B:xs[k]?=some y):x<y:=by
 delta Up at h;rw[gz]at h;obtain⟨j,rfl⟩:=b0.mp l;obtain⟨D,rfl⟩:=b0.mp B;have:=h i k (by simpa using j) (by simpa using D) f;simpa using this
theorem QeB{xs:Array Nat}{j:Nat}(up:Up xs):∀fuel lo f,f-lo<=fuel->lo<=f->f<=xs.size->(∀i x,i<lo->xs[i]?=some x->x<j)->(∀i x,f<=i->xs[i]?=some x->j<=x) ->
  ia xs j fuel lo f<=xs.size/\(∀i x,i<ia xs j fuel lo f->xs[i]?=some x->x<j)/\(∀i x,ia xs j fuel lo f<=i->xs[i]?=some x->j<=x)
 |0,lo,f,hf,hl,D,h1,h2=>by
  have:lo=f:=by lia
  subst this;exact⟨D,h1,h2⟩
 |fuel+1,lo,f,hf,hl,D,h1,h2=>by
  unfold ia;by_cases B:lo<f
  .rw[au B];have hz:lo<=(lo+f)/2/\(lo+f)/2<f:=by omega
   generalize (lo+f)/2=m at *;have hm:m<xs.size:=by lia
   have E :=aM hm;have hd:xs.getD m j=xs[m]:=by simp[ hm]
   by_cases hc:xs.getD m j<j
   .rw[au hc];refine QeB up fuel _ f (by lia) (by lia) D (λi x H l=>?_) h2;rcases i6 i m with z | z
    .have:=up.get z l E;lia
    .have:i=m:=by lia
     subst this;rw[E]at l;cases l;lia
   .rw[aK hc];refine QeB up fuel lo _ (by lia) (by lia) (by lia) h1 λi x H l=>?_;rcases i6 m i with z | z
    .have:=up.get z E l;lia
    .have:i=m:=by lia
     subst this;rw[E]at l;cases l;lia
  .rw[aK B];have:lo=f:=by lia
   subst this;exact⟨D,h1,h2⟩
def Qal(up:Up xs) j:bL xs j<=xs.size/\(∀i x,i<bL xs j->xs[i]?=some x->x<j)/\(∀i x,bL xs j<=i->xs[i]?=some x->j<=x) :=
 QeB up xs.size 0 xs.size (by lia) (by lia) (aB _) (by grind) (by grind)
def below_at(up:Up xs)(h:xs[i]?=some j):bL xs j=i:=by
 obtain⟨h1,h2,l⟩:=Qal up j;rcases i5 (bL xs j) i with z | z | z
 .have B:=(b0.mp h).1;have f:xs[bL xs j]?=some xs[bL xs j]:=aM (by lia);have a:=l _ _ (aB _) f;have b:=up.get z f h;lia
 .exact z
 .have:=h2 i j z h;lia
def QjL(up:Up xs)(h:xs[i]?=some j):bL xs (j+1)=i+1:=by
 obtain⟨h1,h2,l⟩:=Qal up (j+1);rcases i5 (bL xs (j+1)) (i+1) with z | z | z
 .have:=l i j (by lia) h;lia
 .exact z
 .have f:xs[i+1]?=some xs[i+1]:=aM (by lia);have a:=h2 _ _ z f;have b:=up.get (cU i) h f;lia
def QjK(up:Up xs):bL xs 0=0:=by
 obtain⟨h1,h2,j⟩:=Qal up 0;rcases lC (bL xs 0) with z | z
 .exact z
 .have f:xs[0]?=some xs[0]:=aM (by omega);have:=h2 0 _ z f;lia
theorem Qbd xs p (x:α):(h7 xs p x).toList=xs.toList.take p++x::xs.toList.drop p:=by
 delta h7;simp[ List.extract_eq_take_drop];exact c7 (by simp)
def QlJ(up:Up xs)(D:j∉xs.toList):Up (h7 xs (bL xs j) j):=by
 obtain⟨h1,h2,E⟩:=Qal up j;delta Up;rw[Qbd,fO,cx];have lo:∀y∈xs.toList.take (bL xs j),y<j:=λy f=>by
  obtain⟨i,l,rfl⟩:=List.mem_take_iff_getElem.mp f;exact h2 i _ (by lia) (by
   rw[b0];exact⟨by lia,by simp⟩)
 have l:∀y∈xs.toList.drop (bL xs j),j<y:=λy f=>by
  have hm :=fP f;obtain⟨i,l,rfl⟩:=List.mem_drop_iff_getElem.mp f;have:=E (bL xs j+i) _ (by lia) (by
   rw[b0];exact⟨by simp at l;lia,rfl⟩)
  have ne:j≠xs.toList[bL xs j+i]:=λe=>D (by rw[e];exact hm);simp at ne;simp;lia
 refine⟨kB (lQ _ _) up,⟨λy f=>l y f,kB (List.drop_sublist _ _) up⟩,λa B b H=>?_⟩;rcases ap.mp H with e | e
 .rw[e];exact lo a B
 .exact ft (lo a B) (l b e)
def Qie{t:d5}(up:Up t.place)(h:∀i,t.slot j≠.live i):j∉t.place.toList:=by
 intro hm;obtain⟨i,l,e⟩:=dB.mp hm;have f:t.place[i]?=some j:=by
  rw[b0];exact⟨by simpa using l,by simpa using e⟩
 have B:=below_at up f;refine h i ?_;delta d5.slot;dsimp only;rw[B,f,au (by simp)]
theorem Qej:∀fuel p j d,(∀q,p.dummy=some q->t.slot q = .dummy)->d5.probe.go t D h fuel p=some (.empty j d)->t.slot j = .empty/\∀q,d=some q->t.slot q = .dummy
 |0,p,j,d,_,e=>by cases e
 |fuel+1,p,j,d,B,e=>by
  unfold d5.probe.go at e;split at e
  .rename_i l;cases e;exact⟨l,B⟩
  .rename_i l;refine Qej fuel _ j d (λq f=>?_) e;have hd:(t.advance { p with dummy:=some p.j }).dummy=some p.j:=by
    delta d5.advance;split<;>rfl
   rw[hd]at f;cases f;exact l
  .split at e
   .cases e
   .refine Qej fuel _ j d (λq f=>B q ?_) e;have hd:(t.advance p).dummy=p.dummy:=by
     delta d5.advance;split<;>rfl
    rw[hd]at f;exact f
set_option tactic.hygienic true in
def Qgh{t:d5}(up:Up t.place)(e:t.freeSlot h=some (j,b)):j∉t.place.toList:=by
 delta d5.freeSlot at e;split at e
 .rename_i i d f;obtain⟨h1,h2⟩:=Qej _ _ _ _ (λq f=>by cases f) f;cases e;cases d with
  |none =>
   refine Qie up λk z=>?_;rw[show(none.getD i)=i from rfl,h1]at z;cases z
  |some q =>
   refine Qie up λk z=>?_;have h2:=h2 q rfl;rw[show((some q).getD i)=q from rfl,h2]at z;cases z
 .cases e
def up_range n:Up (Array.range n):=by
 unfold Up;rw[Array.toList_range];exact eh
noncomputable def QbI{α:Type}(f:Nat->Option α) n:(((ao n).filterMap λj=>(f j).map (j,·)).map (·.1)).Pairwise (· < ·):=by
 have key:∀l:List Nat,l.Pairwise (· < ·)->(((l.filterMap λj=>(f j).map (j,·)).map (·.1)).Pairwise (· < ·))/\∀x∈((l.filterMap λj=>(f j).map (j,·)).map (·.1)),x∈l:=by
  intro l;induction l with
  |nil=>intro _;exact⟨by simp,by simp⟩
  |cons y l I =>
   intro D;rw[cx]at D;obtain⟨H,E⟩:=I D.2;cases hf:f y with
   |none =>
    rw[dw (by rw[hf];rfl)];exact⟨H,λx B=>ax _ (E x B)⟩
   |some z =>
    rw[cL (by rw[hf];rfl),ba];refine⟨cx.mpr ⟨λx B=>D.1 x (E x B),H⟩,λx B=>?_⟩;rcases ap.mp B with e | e
    .rw[e];exact bB
    .exact ax _ (E x e)
 exact(key _ eh).1
def Kept(L:Bool)(t:d5):Prop:=t.led=L/\Up t.place
def YL(k:Kept L t) n:Kept L (t.standIn n):=⟨k.1,up_range n⟩
def Qjr(k:Kept L t) b:Kept L { t with plain:=b }:=k
set_option tactic.hygienic true in
def QhB(k:Kept L t) f h x:Kept L (layNew t f h x).2.1:=by
 delta layNew;split
 .rename_i j b e;dsimp only;delta d5.orStandIn;have k2:Kept L (t.put j).1:=⟨k.1,QlJ k.2 (Qgh k.2 e)⟩
  split
  .exact k2
  .exact YL k2 _
 .exact YL k _
set_option tactic.hygienic true in
def Qjq(k:Kept L t) f n:Kept L (jD t f n).2.1:=by
 delta jD;split
 .rename_i t' order e;dsimp only;split
  .delta d5.relaid jl at e;cases hl:d5.layClean (bN n-1) (f.map (·.1)) with
   |none=>rw[hl]at e;cases e
   |some owner =>
    rw[hl]at e;cases e;refine⟨k.1,?_⟩;exact QbI (λj=>owner.getD j none) _
  .exact YL k _
 .exact YL k _
section
def SetL(prog:aY)(w:cf)(L:Bool)(h:Heap)(a:Addr)(M:List Int):Prop :=
 ∃o f j t,h.get? a=some o/\o.ExactSet/\o.data = .set f j t/\kC (intKind prog w) f.toList/\(∀k,k∈M↔∃e∈f.toList,(intKind prog w).is k e.2=true) /\
  f.size<eZ/\t.fits f.size=true/\f.size=M.length/\M.Nodup/\Kept L t
def SetL.at(x:SetL prog w L h a M)(e:∀o,h.get? a=some o->f.get? a=some o):SetL prog w L f a M:=by
 obtain⟨o,j,l,t,ho,r⟩:=x;exact⟨o,j,l,t,e o ho,r⟩
def more(M:List Int)(k:Int):List Int:=if k∈M then M else M++[k]
end
def byT(w:cf):Bool:=w.params.followText "set-order"
section
def setNew v {Q₁:Value->aC->Prop} (fin:Q₁ (.ref s.heap.objs.size) { s with heap:=s.heap.push { cls := .type "set",dict:=none,data := .set #[] 0 (.fresh 0 0 (!byT w)) } }) :
  fC (model prog w) A (.call (.builtin "set.__new__") ⟨[.type "set",v],[]⟩) (wants Q₁ E) s:=by
 refine codeAny_of_tree ?_;refine ac (gm (PySem.F.newCall_set_1 v) (ag ⟨gc PySem.F.plain_set_new _,cY PySem.F.entry_set_new ?_⟩));delta je.«set.__new__» je.Frozenset.newClass;have sub:=jC;obtain⟨f,g,d,tk,os⟩:=s
 wp_walk
 refine cH (ag ?_);dsimp only;simp only[newObj];refine ac (wpAny_alloc (ag ?_));exact ag fin
end
namespace SF
def own_si:Manifest.owners.lookup (String.ofList ['r','o','t','a','r','e','t','i','_','t','e','s'].reverse)=some Manifest.sig_set_iterator:=by kernel_rfl
def si_next:lB "set_iterator" "__next__" "set_iterator.__next__" := .of (owner := "set_iterator") (n := "__next__") (by kernel_rfl) (by decide+kernel) (by decide+kernel) (by decide+kernel) (by first | exact .inl (by decide+kernel) | exact .inr (by decide+kernel)) (by kernel_rfl)
def si_entry:mK table "set_iterator.__next__"=some je.«set_iterator.__next__»:=entryFor_of_tree (by kernel_rfl)
def si_args a:argsOk "set_iterator.__next__" ⟨[a],[]⟩:=by
 delta argsOk;rw[signature?_of (n:=['_','_','t','x','e','n','_','_']) (by kernel_rfl) own_si];kernel_rfl
def set_iter:mK table "set.__iter__"=some je.«frozenset.__iter__»:=kL (id' := "frozenset.__iter__") (by kernel_rfl) rfl (by decide+kernel) (by kernel_rfl)
end SF
theorem Qai:∀{l:List α}{i:Nat}(h:i<l.length),(l[i]::l.eraseIdx i).Perm l
 |x::l,0,_=>.refl _
 |x::l,i+1,h=>by
  have f:=Qai (by simpa using h);exact(List.Perm.swap _ _ _).trans (f.cons x)
theorem QkL f:∀fuel k l (B:Array α),l.length=fuel->(gM.go f fuel k l B).toList.Perm (B.toList++l)
 |0,k,l,B,h=>by
  rw[dD.mp h,bu];exact .refl _
 |fuel+1,k,l,B,h=>by
  have D:0<l.length:=by lia
  have j:f k%l.length<l.length:=bA _ D;unfold gM.go;rw[aR j];refine(QkL f fuel (k+1) _ _ (by rw[iy,au j];lia)).trans ?_;rw[lY,gC];refine List.Perm.append_left _ ?_;exact Qai j
def QaU f (xs:Array α):(gM f xs).toList.Perm xs.toList:=by
 have:=QkL f xs.size 0 xs.toList #[] (by simp);simpa[gM] using this
section
def QjF(f:n≠0)(h:∀i d,i<n->Q i { s with drawn:=d }):aE (model prog w) A (choose l n) Q E s:=λj p _=>by
 exact⟨f,by exact h _ _ (bA _ (iP f))⟩
theorem Qeu:∀n xs s (Q:List α->aC->Prop),xs.length=n->(∀ys d,ys.Perm xs->Q ys { s with drawn:=d })->aE (model prog w) A (drawOrder n xs) Q E s
 |0,xs,s,Q,f,h=>by
  rw[dD.mp f]at h;exact ag (h [] s.drawn (.refl _))
 |n+1,[],s,Q,f,h=>by simp at f
 |n+1,x::xs,s,Q,f,h=>by
  refine ac (QjF (by simp) λi d j=>?_);rw[aR j];refine ac (Qeu n _ _ _ (by rw[iy,au j];lia) λys l p=>?_);exact ag (h _ _ ((List.Perm.cons _ p).trans (Qai j)))
end
def SIt(h:Heap)(I D:Addr)(first:Value)(i n f:Nat):Prop:=∃o,h.get? I=some o/\o.cls = .type "set_iterator"/\o.data = .fields #[first,bP i,.ref D,bP n,bP f]
def SetC(h:Heap)(D:Addr)(f:Array (Int×Value))(l:Nat)(t:d5):Prop:=∃o,h.get? D=some o/\o.ExactSet/\o.data = .set f l t/\t.fits f.size=true
section
def SIt.typeIs{s:aC}(x:SIt s.heap I D first i n f):s.TypeIs (.ref I) "set_iterator":=let ⟨o,ho,hc,_⟩:=x;⟨o,ho,hc⟩
def SIt.at(x:SIt h I D first i n f)(e:∀o,h.get? I=some o->l.get? I=some o):SIt l I D first i n f:=let ⟨o,ho,r⟩:=x;⟨o,e _ ho,r⟩
def SetC.at(x:SetC h D f l t)(e:∀o,h.get? D=some o->B.get? D=some o):SetC B D f l t:=let ⟨o,ho,r⟩:=x;⟨o,e _ ho,r⟩
def QaM{h:Heap}(ho:h.get? I=some o)(hd:o.data = .fields vs):∃f,(h.update I (gk (·.setIfInBounds j x))).get? I=some f/\f.cls=o.cls/\f.data = .fields (vs.setIfInBounds j x) :=
 ⟨_,dC _ ho (eO (dX hd _)),Obj.cls_mapFields ..,dX hd _⟩
def QkD{s:aC}{l:Array (Int×Value)}{slot next:Nat}(f:SIt s.heap I D (bP slot) i l.size B)(U:SetC s.heap D l B t)(J:∀Y E' R,R (some (v,next)) s->aE (model prog w) Y (setNext D slot i B) R E' s)(fin:∀L,SIt L I D (bP next) (i+1) l.size B->bR I s.heap L->Q (some v) { s with heap:=L }):aE (model prog w) A (kH (.ref I)) Q E s:=by
 obtain⟨o,ho,hc,hd⟩:=id f;obtain⟨oS,H,hex,M,hf⟩:=U;refine ac (im (dN f.typeIs SF.si_next (b5 SF.si_next f.typeIs SF.si_entry ?_ (SF.si_args _))));refine ac (gm rfl (ac (iZ ho hd ?_)));refine ac (ew H M hf ?_);rw[aK (by simp)];refine ac (J _ _ _ ?_);obtain⟨o1,j,c1,T⟩:=QaM ho hd;refine ac (cS ho hd (by simp) (ac (cS j T (by simp) ?_)));obtain⟨o2,O,c2,d2⟩:=QaM j T;exact ag ⟨v,rfl,ag (fin _ ⟨o2,O,c2.trans (c1.trans hc),by rw[d2];simp[bP]⟩ ((dn _ I _).trans (dn _ I _)))⟩
def Qid{prog:aY}{w:cf}{A:dm}{E:Value->aC->Prop}{s:aC}(calm:A.handled=none)(fin:∀f,(∀b o,h1.get? b=some o->f.get? b=some o)->Q none { s with heap:=f }) :
  aE (model prog w) A.in1 (newExc (.type "StopIteration") [] >>= λe=>(raiseNew e)) (λfin s'=>∃v,fin=Fin.done (Flow.ret v)/\aE (model prog w) A (pure (some v)) Q E s')
   (λe s'=>aE (model prog w) A (do let b <-kJ e (.type "StopIteration");if b=true then pure none else throw e) Q E s') { s with heap:=h1 }:=by
 refine ac ?_;refine ac (bU ?_ (by size_fits));refine ac (gm (by first | rfl | (rfl)) (bU ?_ (by size_fits)));refine ac (wpAny_handled ?_);rw[calm];refine ac (ag (wpAny_throw ?stop));case stop =>
 have ty:∀o (h2:Heap),o.cls = .type "StopIteration"->o.isFreed=false->lv { s with heap:=h2.push o } (.ref h2.objs.size) "StopIteration":=λo h2 hc hf=>⟨o,ay _ hf,hc⟩
 refine ac (fY (ty _ _ rfl rfl) isSubtype_stop ?_);exact ag (fin _ λb o e=>af _ (af _ e))
def QkE{prog:aY}{w:cf}{A:dm}{E:Value->aC->Prop}{s:aC}{I:Addr}{D:Addr}{L:Array (Int×Value)}{B:Nat}{t:d5}{i:Nat}{slot:Nat}(calm:A.handled=none)(f:SIt s.heap I D (bP slot) i L.size B)(M:SetC s.heap D L B t)(J:∀O T R,R none s->aE (model prog w) O (setNext D slot i B) R T s)(fin:∀l,(∀b o,b≠I->s.heap.get? b=some o->l.get? b=some o)->Q none { s with heap:=l }):aE (model prog w) A (kH (.ref I)) Q E s:=by
 obtain⟨o,ho,hc,hd⟩:=id f;obtain⟨Y,j,hex,H,hf⟩:=M;refine ac (im (dN f.typeIs SF.si_next (b5 SF.si_next f.typeIs SF.si_entry ?_ (SF.si_args _))));refine ac (gm rfl (ac (iZ ho hd ?_)));refine ac (ew j H hf ?_);rw[aK (by simp)];refine ac (J _ _ _ ?_);refine ac (cS ho hd (by simp) ?_);exact Qid calm λl k=>fin l λb o U e=>k b o ((bK _ _ (Ne.symm U)).trans e)
def si_dsome{s:aC}{B:Array (Int×Value)}{Tp O:Nat}(f:SIt s.heap I D (.ref Tp) i B.size U)(Y:SetC s.heap D B U t)(T:IsTup s.heap Tp ys)(hy:ys[i]?=some (bP O))(he:B[O]?=some e)(fin:∀J,SIt J I D (.ref Tp) (i+1) B.size U->bR I s.heap J->Q (some e.2) { s with heap:=J }):aE (model prog w) A (kH (.ref I)) Q E s:=by
 obtain⟨o,ho,hc,hd⟩:=id f;obtain⟨oS,j,hex,l,hf⟩:=Y;refine ac (im (dN f.typeIs SF.si_next (b5 SF.si_next f.typeIs SF.si_entry ?_ (SF.si_args _))));refine ac (gm rfl (ac (iZ ho hd ?_)));refine ac (ew j l hf ?_);rw[aK (by simp)];obtain⟨oT,H,_,nT,L⟩:=T;refine ac (iX H L ?_);dsimp only;rw[c9,hy];refine ac (ac (bh j l hf ?_));dsimp only;rw[aK (by simp),c9,he];refine ag (ac (cS ho hd (by simp) ?_));obtain⟨o2,M,c2,d2⟩:=QaM ho hd;exact ag ⟨_,rfl,ag (fin _ ⟨o2,M,c2.trans hc,by rw[d2];simp[bP]⟩ (dn _ I _))⟩
def si_dnone{prog:aY}{w:cf}{A:dm}{E:Value->aC->Prop}{s:aC}{I:Addr}{D:Addr}{M:Array (Int×Value)}{O:Nat}{t:d5}{i:Nat}(calm:A.handled=none)(f:SIt s.heap I D (.ref Tp) i M.size O)(Y:SetC s.heap D M O t)(T:IsTup s.heap Tp ys)(hy:ys[i]?=none)(fin:∀l,(∀b o,b≠I->s.heap.get? b=some o->l.get? b=some o)->Q none { s with heap:=l }):aE (model prog w) A (kH (.ref I)) Q E s:=by
 obtain⟨o,ho,hc,hd⟩:=id f;obtain⟨oS,j,hex,B,hf⟩:=Y;obtain⟨oT,H,_,nT,J⟩:=T;refine ac (im (dN f.typeIs SF.si_next (b5 SF.si_next f.typeIs SF.si_entry ?_ (SF.si_args _))));refine ac (gm rfl (ac (iZ ho hd ?_)));refine ac (ew j B hf ?_);rw[aK (by simp)];refine ac (iX H J ?_);dsimp only;rw[c9,hy];obtain⟨o1,L,c1,d1⟩:=QaM ho hd;refine ac (cS ho hd (by simp) (ac (cS L d1 (by simp) ?_)));exact Qid calm λl k=>fin l λb o U e=>k b o ((bK _ _ (Ne.symm U)).trans ((bK _ _ (Ne.symm U)).trans e))
def QkU(T:byT w=true)(J:SetC s.heap D L I t) l B R (h:R (((gM (w.params.setOrder D I) L)[i]?).map λe=>(e.2,slot)) s):aE (model prog w) l (setNext D slot i I) R B s:=by
 obtain⟨E,f,hex,j,hf⟩:=J;refine ac (bh f j hf ?_);refine ac (ac (cH (ag ?_)));refine(show aE _ l (if byT w=true then _ else _) R B s from ?_);rw[au T,aK (by simp)];refine ac (ac (bh f j hf ?_));refine ac (ac (cH (ag ?_)));refine(show aE _ l (if byT w=true then _ else _) _ B s from ?_);rw[au T];refine ac (cH (ag (ag ?_)));exact h
def QbQ(f:Array (Int×Value))(t:d5):Bool := !t.plain&&decide (f.size>1)
def Qir(T:byT w=false)(I:SetC s.heap D f J t)(L:QbQ f t=false)(M:t.led=true) l B R
  (h:R (match f[bL t.place slot]?,t.place[bL t.place slot]? with | some (_,x),some j=>some (x,j+1) | _,_=>none) s):aE (model prog w) l (setNext D slot i J) R B s:=by
 obtain⟨O,E,hex,H,hf⟩:=I;refine ac (bh E H hf ?_);refine ac (ac (cH (ag ?_)));refine(show aE _ l (if byT w=true then _ else _) R B s from ?_);rw[aK (by rw[T];decide)];refine(show aE _ l (if QbQ f t=true then _ else _) R B s from ?_);rw[aK (by rw[L];decide)];refine(show aE _ l ((if (!t.led && !f.isEmpty)=true then unsupported "set:maker-not-led" else pure ()) >>= _) R B s from ?_);rw[aK (by rw[M];simp)];exact ac (ag (ag h))
end
namespace SF
def si_iter:lB "set_iterator" "__iter__" "set_iterator.__iter__" := .of (owner := "set_iterator") (n := "__iter__") (by kernel_rfl) (by decide+kernel) (by decide+kernel) (by decide+kernel) (by first | exact .inl (by decide+kernel) | exact .inr (by decide+kernel)) (by kernel_rfl)
def si_iargs a:argsOk "set_iterator.__iter__" ⟨[a],[]⟩:=by
 delta argsOk;rw[signature?_of (n:=['_','_','r','e','t','i','_','_']) (by kernel_rfl) own_si];kernel_rfl
def si_ientry:mK table "set_iterator.__iter__"=some je.«dict_keyiterator.__iter__»:=kL (id' := "dict_keyiterator.__iter__") (by kernel_rfl) (by first | rfl | decide+kernel | (delta String.splitOn;simp+decide [String.splitOnAux])) (by decide+kernel) (by kernel_rfl)
end SF
section
def Qgv(f:SIt s.heap I D first i n l)(h:Q (.ref I) s):aE (model prog w) A (l8 (.ref I)) Q E s:=by
 refine wpAny_pyIter_slot f.typeIs SF.si_iter (b5 SF.si_iter f.typeIs SF.si_ientry ?_ (SF.si_iargs _));exact ag ⟨_,rfl,"set_iterator",_,f.typeIs,SF.si_next.lookup,h⟩
noncomputable def cur(place:Array Nat):Nat->Nat
 |0=>0
 |i+1=>(place[i]?).getD 0+1
def QiN(h:place[i]?=some j):cur place (i+1)=j+1:=by
 show(place[i]?).getD 0+1=j+1;rw[h];rfl
theorem QfL(up:Up place):∀{i:Nat},i<=place.size->bL place (cur place i)=i
 |0,_=>QjK up
 |i+1,h=>by
  have f :=by omega
  have e :=aM f;rw[QiN e];exact QjL up e
def QlI(T:byT w=true)(ne:D≠I) B (calm:B.handled=none):Walks prog w B I [I,D] [I] f.size (λi v=>((gM (w.params.setOrder D l) f)[i]?).map (·.2)=some v) (λi h=>i<=f.size/\SIt h I D (bP 0) i f.size l/\SetC h D f l t) where
 sub:=λb j=>by simp at j;simp[j]
 frame:=λi h H x k=>⟨x.1,x.2.1.at λo e=>k I (by simp) o e,x.2.2.at λo e=>k D (by simp) o e⟩
 item:=λi s Q E M x fin=>by
  have sz :=by
   have:=(QaU (w.params.setOrder D l) f).length_eq;simpa using this
  have J:(gM (w.params.setOrder D l) f)[i]?=some ((gM (w.params.setOrder D l) f)[i]'(by lia)):=aM (by lia);refine QkD x.2.1 x.2.2 (λB L R h=>QkU T x.2.2 B L R (by rw[J];exact h)) λH z sb=>?_;exact fin _ H s.toks (by rw[J];rfl) ⟨M,z,x.2.2.at λo e=>(sb.2 D ne).trans e⟩ λb o j e=>(sb.2 b λq=>j (by simp[q])).trans e
 done:=λs Q E x fin=>by
  have sz :=by
   have:=(QaU (w.params.setOrder D l) f).length_eq;simpa using this
  have J:(gM (w.params.setOrder D l) f)[f.size]?=none:=b9 (by lia);exact QkE calm x.2.1 x.2.2 (λB L R h=>QkU T x.2.2 B L R (by rw[J];exact h)) λH k=>fin H s.toks λb o j e=>k b o (λq=>j (by simp[q])) e
 self:=λ_ _ _ _ x h=>Qgv x.2.1 h
def QiT(T:byT w=false)(M:QbQ l t=false)(kp:Kept true t)(f:t.fits l.size=true)(ne:D≠I) B (calm:B.handled=none):Walks prog w B I [I,D] [I] l.size (λi v=>(l[i]?).map (·.2)=some v) (λi h=>i<=l.size/\SIt h I D (bP (cur t.place i)) i l.size Y/\SetC h D l Y t) where
 sub:=λb j=>by simp at j;simp[j]
 frame:=λi h H x k=>⟨x.1,x.2.1.at λo e=>k I (by simp) o e,x.2.2.at λo e=>k D (by simp) o e⟩
 item:=λi s Q E O x fin=>by
  have ps :=by
   delta lw at f;simp at f;exact f.1
  have J :=aM O;have U:t.place[i]?=some (t.place[i]'(by lia)):=aM (by lia);have j:=QfL kp.2 (i:=i) (by lia);refine QkD (next:=cur t.place (i+1)) x.2.1 x.2.2 (λB L R h=>Qir T x.2.2 M kp.1 B L R (by
   rw[j,J,U];rw[QiN U]at h;exact h)) λH z sb=>?_
  exact fin _ H s.toks (by rw[J];rfl) ⟨O,z,x.2.2.at λo e=>(sb.2 D ne).trans e⟩ λb o j e=>(sb.2 b λq=>j (by simp[q])).trans e
 done:=λs Q E x fin=>by
  have ps :=by
   delta lw at f;simp at f;exact f.1
  have J:l[l.size]?=none:=b9 (aB _);have j:=QfL kp.2 (i:=l.size) (by lia);exact QkE calm x.2.1 x.2.2 (λB L R h=>Qir T x.2.2 M kp.1 B L R (by rw[j,J];exact h)) λH k=>fin H s.toks λb o j e=>k b o (λq=>j (by simp[q])) e
 self:=λ_ _ _ _ x h=>Qgv x.2.1 h
def QiU{ys:List Nat}(J:ys.Perm (ao f.size))(ne:D≠I)(L:Tp≠I) M (calm:M.handled=none):Walks prog w M I [I,D,Tp] [I] f.size (λi v=>((ys[i]?).bind λj=>f[j]?).map (·.2)=some v)
  (λi h=>i<=f.size/\SIt h I D (.ref Tp) i f.size T/\SetC h D f T t/\IsTup h Tp (ys.map λ(j:Nat)=>bP j).toArray) where
 sub:=λb l=>by simp at l;simp[l]
 frame:=λi h B x k=>⟨x.1,x.2.1.at λo e=>k I (by simp) o e,x.2.2.1.at λo e=>k D (by simp) o e,let ⟨o,ho,r⟩:=x.2.2.2;⟨o,k Tp (by simp) o ho,r⟩⟩
 item:=λi s Q E U x fin=>by
  have hl:ys.length=f.size:=by rw[J.length_eq,am]
  have H:ys[i]?=some (ys[i]'(by lia)):=aR (by lia);have hm:ys[i]'(by lia)<f.size:=a7.mp (J.mem_iff.mp (bi (by lia)));have O :=aM hm;refine si_dsome x.2.1 x.2.2.1 x.2.2.2 (by simp[H]) O λB z sb=>?_;exact fin _ B s.toks (by rw[H,a9,O];rfl) ⟨U,z,x.2.2.1.at λo e=>(sb.2 D ne).trans e,let ⟨o,ho,r⟩:=x.2.2.2;⟨o,(sb.2 Tp L).trans ho,r⟩⟩ λb o l e=>(sb.2 b λq=>l (by simp[q])).trans e
 done:=λs Q E x fin=>by
  have hl:ys.length=f.size:=by rw[J.length_eq,am]
  exact si_dnone calm x.2.1 x.2.2.1 x.2.2.2 (by simp;lia) λB k=>fin B s.toks λb o l e=>k b o (λq=>l (by simp[q])) e
 self:=λ_ _ _ _ x h=>Qgv x.2.1 h
end
section
def SetC.typeIs{s:aC}(x:SetC s.heap D f l t):s.TypeIs (.ref D) "set":=let ⟨o,ho,hex,_⟩:=x;⟨o,ho,hex.1⟩
def iter_set{s:aC}{f:Array (Int×Value)}{Q:Value->aC->Prop}(hS:SetC s.heap D f B t)(kp:Kept (!byT w) t)(M:f.size<eZ)(fin:∀I J d fp (ord:List (Int×Value)) P St,(∀b o,s.heap.get? b=some o->J.get? b=some o)->(∀b∈fp,b<J.objs.size)->(∀b∈fp,b=D\/s.heap.objs.size<=b)->I∈fp->s.heap.objs.size<=J.objs.size ->
   ord.Perm f.toList->(∀i v,P i v->(ord[i]?).map (·.2)=some v)->(∀l ,l.handled=none->Walks prog w l I fp [I] f.size P St)->St 0 J->D≠I->Q (.ref I) { s with heap:=J,drawn:=d }) :
  aE (model prog w) A (l8 (.ref D)) Q E s:=by
 obtain⟨oS,H,hex,L,hf⟩:=id hS;refine wpAny_pyIter_slot hS.typeIs ky (b5 ky hS.typeIs SF.set_iter ?_ (PySem.F.args_set_iter_1 _));delta je.«frozenset.__iter__» je.Frozenset.slot0 slotArgs;simp only[List.isEmpty_nil,iN,eu,↓reduceIte,mM,cN,i1];refine ac (ag ?_)
 try dsimp only
 refine ac (ag ?_);refine ac (ac (ew H L hf (ag ?_)));refine ac (ac (bh H L hf ?_));refine ac (ac (cH (ag ?_)));refine ag ?_;refine(show aE _ A.in1 (if (!byT w&&QbQ f t)=true then _ else _) _ E s from ?_);have lt:D<s.heap.objs.size:=aD H;have plain:∀(P:Nat->Value->Prop)(St:Addr->Nat->Heap->Prop)(ord:List (Int×Value)),ord.Perm f.toList->(∀i v,P i v->(ord[i]?).map (·.2)=some v)->(∀I,D≠I->∀l:dm,l.handled=none->Walks prog w l I [I,D] [I] f.size P (St I)) ->
   (∀J,SIt J s.heap.objs.size D (bP 0) 0 f.size B->SetC J D f B t->St s.heap.objs.size 0 J) ->
   aE (model prog w) A.in1 (do
    let first <-pure (bP 0)
    let k <-mI D;let it <-newFields "set_iterator" [first,bP 0,cR D,bP (f.size:Nat),bP (k:Nat)]
    ret it) (λfin s'=>∃v,fin=Fin.done (Flow.ret v)/\∃T' r,s'.TypeIs v T'/\kF (Value.type T') (Str.ofString "__next__")=pure (some r)/\Q v s') E s:=by
  intro P St ord hp hP hW av;refine ac (ag (ac ?_));delta mI;refine ac (bh H L hf (ag ?_));delta newFields;refine ac (bU (ag ⟨_,rfl,"set_iterator",_,⟨_,ay _ rfl,rfl⟩,SF.si_next.lookup,?_⟩) (by size_fits));have O:SIt (s.heap.push { cls := .type "set_iterator",data := .fields [bP 0,bP 0,cR D,bP (f.size:Nat),bP (B:Nat)].toArray }) s.heap.objs.size D (bP 0) 0 f.size B:=⟨_,ay _ rfl,rfl,rfl⟩
  refine fin s.heap.objs.size _ s.drawn [s.heap.objs.size,D] ord P (St s.heap.objs.size) (λb o e=>af _ e) (λb T=>?_) (λb T=>?_) (by simp) (by rw[bH];exact dy _) hp hP (λl c=>hW _ (aL lt) l c) (av _ O (hS.at λo e=>af _ e)) (aL lt)
  .rw[bH];rcases ap.mp T with q | q
   .rw[q];exact cU _
   .rw[al.mp q];exact cp lt
  .rcases ap.mp T with q | q
   .rw[q];exact .inr (aB _)
   .exact .inl (al.mp q)
 cases hT:byT w with
 |true =>
  rw[aK (by simp)];exact plain _ (λI i h=>i<=f.size/\SIt h I D (bP 0) i f.size B/\SetC h D f B t) (gM (w.params.setOrder D B) f).toList (QaU _ _) (λi v h=>by rw[di];exact h) (λI ne l c=>QlI hT ne l c) λJ x y=>⟨cG _,x,y⟩
 |false =>
  rw[hT]at kp;cases hD:QbQ f t with
  |false =>
   rw[aK (by simp)];exact plain _ (λI i h=>i<=f.size/\SIt h I D (bP (cur t.place i:Nat)) i f.size B/\SetC h D f B t) f.toList (.refl _) (λi v h=>by rw[di];exact h) (λI ne l c=>QiT hT hD kp hf ne l c) λJ x y=>⟨cG _,x,y⟩
  |true =>
   rw[au (by simp)];refine ac (Qeu _ _ _ _ (am) λys d hy=>?_);have hl:ys.length=f.size:=by rw[hy.length_eq,am]
   have hz:(ys.map λ(j:Nat)=>bP j).toArray.size<=aI:=by
    rw[aQ,ai,hl];exact eQ M
   delta newTuple;refine ac (bU ?_ hz);delta mI;refine ac (ac (bh (af _ H) L hf (ag ?_)));delta newFields;refine ac (bU (ag ⟨_,rfl,"set_iterator",_,⟨_,ay _ rfl,rfl⟩,SF.si_next.lookup,?_⟩) (by size_fits));have U:D<(s.heap.push { cls := .type "tuple",data := .seq (ys.map λ(j:Nat)=>bP j).toArray }).objs.size:=by rw[bH];exact cp lt
   have Y:s.heap.objs.size<(s.heap.push { cls := .type "tuple",data := .seq (ys.map λ(j:Nat)=>bP j).toArray }).objs.size:=by rw[bH];exact cU _
   have O:SIt ((s.heap.push { cls := .type "tuple",data := .seq (ys.map λ(j:Nat)=>bP j).toArray }).push { cls := .type "set_iterator",data := .fields [cR s.heap.objs.size,bP 0,cR D,bP (f.size:Nat),bP (B:Nat)].toArray })
    (s.heap.push { cls := .type "tuple",data := .seq (ys.map λ(j:Nat)=>bP j).toArray }).objs.size D (.ref s.heap.objs.size) 0 f.size B:=⟨_,ay _ rfl,rfl,rfl⟩
   refine fin _ _ d [_,D,s.heap.objs.size] (ys.map λj=>(f[j]?).getD (0,.none)) _ _ (λb o e=>af _ (af _ e)) (λb T=>?_) (λb T=>?_) (by simp) (by rw[bH,bH];exact Nat.le_succ_of_le (dy _)) ?_ ?_
    (λl c=>QiU (Tp:=s.heap.objs.size) hy (aL U) (aL Y) l c) ⟨cG _,O,hS.at λo e=>af _ (af _ e),⟨_,af _ (ay _ rfl),rfl,_,rfl⟩⟩ (aL U)
   .rw[bH];rcases ap.mp T with q | q
    .rw[q];exact cU _
    .rcases ap.mp q with q | q
     .rw[q];exact cp U
     .rw[al.mp q];exact cp Y
   .rcases ap.mp T with q | q
    .rw[q];exact .inr (b8 Y)
    .rcases ap.mp q with q | q
     .exact .inl q
     .rw[al.mp q];exact .inr (aB _)
   .have e:f.toList=(ao f.size).map λj=>(f[j]?).getD (0,.none):=by
     apply eH;intro i;rw[aT,di];by_cases h:i<f.size
     .rw[fU h];simp[h]
     .rw[bp (by rw[am];lia),b9 (by lia)];rfl
    rw[e];exact hy.map _
   .intro i v h;rw[aT];cases hi:ys[i]? with
    |none=>rw[hi]at h;cases h
    |some j =>
     rw[hi,a9]at h;cases hj:f[j]? with
     |none=>rw[hj]at h;cases h
     |some x=>rw[hj]at h;simp[hj];simpa using h
end
section
theorem QaB{α:Type}[DecidableEq α]:∀{M ks:List α},M.Nodup->(∀x∈M,x∈ks)->ks.length<=M.length->ks.Perm M
 |[],ks,_,_,h=>by
  rw[dD.mp (Nat.le_zero.mp h)]
 |x::M,ks,f,j,hl=>by
  rw[bO]at f;have l :=j x bB;have p:=ix l;refine p.trans (List.Perm.cons x (QaB f.2 (λy B=>?_) ?_))
  .exact(kU (λe=>f.1 (by rw[<-e];exact B))).mpr (j y (ax _ B))
  .rw[j3 l];simp at hl;omega
def ite_t(h:c=true)(q:aE M A a R E s):aE M A (if c=true then a else b) R E s:=by
 rw[au h];exact q
def hint_set{R:Bool->aC->Prop}(T:s.TypeIs (.ref D) "set")(h:R false s):aE (model prog w) A (gK (.ref D)) R E s:=by
 delta gK;refine ac (j9 T PySem.F.slot_set_len.lookup ?_);dsimp only;rw[show splitId "set.__len__"=some ("set","__len__") from by kernel_rfl];dsimp only;refine ac (fY T jC ?_);simp only[iN,eu,iu];refine ite_t (by kernel_rfl) (ac (iA T ?_));exact ag h
def QhN{A:dm}{s:aC}{J:Array (Int×Value)}{Q:List Value->aC->Prop}(calm:A.handled=none)(hS:SetC s.heap D J ep t)(kp:Kept (!byT w) t)(f:J.size<eZ)(fin:∀Y tk d (ord:List (Int×Value)),(∀b o,s.heap.get? b=some o->Y.get? b=some o)->s.heap.objs.size<=Y.objs.size->ord.Perm J.toList->Q (ord.map (·.2)) { s with heap:=Y,toks:=tk,drawn:=d }) :
  aE (model prog w) A (collect (.ref D)) Q E s:=by
 obtain⟨oS,av,hex,aJ,hf⟩:=id hS;have lt:D<s.heap.objs.size:=aD av;have M:s.heap.objs.size≠D:=f8 lt;delta collect;refine ac (gN (cY jB ?_));rw[mT PySem.F.plain_proto_collect _];show aE _ A.in1 (newList [] >>= λl=>again (.builtin "list.__iadd__" ⟨[l,.ref D],[]⟩)) _ _ s;refine ac (bU (ag ⟨gc gT _,cY j7 ?_⟩));rw[mT gT _];have L:SetC (s.heap.push { cls := .type "list",data := .seq ([]:List Value).toArray }) D J ep t:=hS.at λo e=>af _ e;show aE _ A.in1 (eR (.ref s.heap.objs.size) (.ref D) (.ref s.heap.objs.size)) _ _ _;delta eR;refine ac (iA (s:={ s with heap:=s.heap.push { cls := .type "list",data := .seq ([]:List Value).toArray } }) L.typeIs ?_);have q1:fA (.ref s.heap.objs.size) (.ref D)=false:=by simp[fA,M]
 have q2:(Value.type "set"==Value.type "list")=false:=by decide
 have q3:(Value.type "set"==Value.type "tuple")=false:=by decide
 simp only[q1,q2,q3,j4,eu,iu];refine ac (iter_set (s:={ s with heap:=s.heap.push { cls := .type "list",data := .seq ([]:List Value).toArray } }) L kp f λI h2 d fp ord P St k2 aZ H hI bv hp hP hW st az=>?_);refine ac (cr ?_);have aq:SetC h2 D J ep t:=L.at λo e=>k2 D o e;refine hint_set (s:={ s with heap:=h2,drawn:=d }) aq.typeIs ?_;refine ite_t (by kernel_rfl) (ac (fX (ac ?_)));have L0:h2.get? s.heap.objs.size=some { cls := .type "list",data := .seq ([]:List Value).toArray }:=k2 _ _ (ay _ rfl);show aE _ A.in1 (updateSeq s.heap.objs.size (·.push .none) >>= λ_=>updateSeq s.heap.objs.size (·.pop)) _ _ _;refine ac (iJ L0 rfl ?_);have L1:=dC (cm (·.push de)) L0 rfl;refine iJ L1 rfl ?_;have L2:=dC (cm (·.pop)) L1 rfl;have O:s.heap.objs.size∉fp:=λz=>by
  rcases H _ z with q | q
  .exact M q
  .have q:(s.heap.push { cls := .type "list",data := .seq ([]:List Value).toArray }).objs.size<=s.heap.objs.size:=q;rw[bH]at q;exact absurd q (Nat.not_succ_le_self _)
 have W:=(hW A.in1 (by simp[calm]):Walks prog w A.in1 I fp [I] J.size P St)
 have oth:∀b o,b≠s.heap.objs.size->h2.get? b=some o->((h2.update s.heap.objs.size (cm (·.push de))).update s.heap.objs.size (cm (·.pop))).get? b=some o:=λb o U e =>
  (bK _ _ (Ne.symm U)).trans ((bK _ _ (Ne.symm U)).trans e)
 refine ag ⟨gc jO _,mL W.toS (eQ f) _ O _ J.size 0 _ _ _ rfl (cG _) (W.frame 0 _ _ st λb U o e=>oth b o (λq=>O (q▸U)) e) L2 (ItemsOf.nil P) λs' acc c hm T B=>?_⟩;refine ac (kD T (ag ?_));obtain⟨h3,g3,d3,aj,ak⟩:=s';obtain rfl:g3=s.gens:=hm.gens;obtain rfl:d3=d:=hm.drawn;obtain rfl:ak=s.os:=hm.os;have ol:ord.length=J.size:=by
  have:=hp.length_eq;simpa using this
 have e:acc.toList=ord.map (·.2):=by
  apply eH;intro j;rw[aT,di];by_cases hj:j<J.size
  .have g:acc[j]?=some (acc[j]'(by rw[B.1];exact hj)):=aM _;rw[g];exact(hP j _ (B.2 j _ g)).symm
  .rw[b9 (by rw[B.1];lia),bp (by lia)];rfl
 rw[e];refine fin h3 aj d3 ord (λb o q=>?_) ?_ hp
 .have bl:b<s.heap.objs.size:=aD q;refine hm.heap b o (λz=>?_) (oth b o (aL bl) (k2 b o (af _ q)));rcases ap.mp z with z | z
  .exact absurd z (aL bl)
  .rw[al.mp z]at bl;rcases H I hI with y | y
   .exact az y.symm
   .have y:(s.heap.push { cls := .type "list",data := .seq ([]:List Value).toArray }).objs.size<=I:=y;rw[bH]at y;exact absurd (aF bl (i7 y)) (b4 _)
 .exact b8 (aD T)
end
section
def _root_.L2.Inv.drawn(I:Inv X f l H s) d:Inv X f l H { s with drawn:=d }:=⟨I.ok,I.os,I.bare,I.base,I.loc,I.cell,I.free,I.freeC,I.pin,I.hok,I.len⟩
end
end L2.PM
namespace L2.PM
open PySem PySem.Spec PyProof.Rows
open PySem.AutoSeq1 (wpAny_loadPart')
section
def Qjk(f:s.heap.IsTupleIter it I i)(J:s.heap.IsTuple I l)(L:l[i]?=some x)(fin:∀B,B.IsTupleIter it I (i+1)->bR it s.heap B->Q x { s with heap:=B }):aE (model prog w) A (lm (.ref it)) Q E s:=by
 obtain⟨o,ho,hc,hd⟩:=id f;obtain⟨U,j,_,nt,D⟩:=J;refine ac (dN f.typeIs dW (b5 dW f.typeIs iV ?_ (iO _)));refine(show aE _ _ (field (.ref it) 0 >>= _) _ _ s from ac (dQ ho hd rfl ?_));refine(?_);refine(ac (dQ ho hd rfl ?_));refine(ac (iX j D ?_));simp only[c9,L];obtain⟨M,H,O,T⟩:=QaM ho hd;exact ac (cS ho hd (by simp) (ag ⟨x,rfl,ag (fin _ ⟨M,H,O.trans hc,by rw[T];simp[bP]⟩ (dn ..))⟩))
def stopE{prog:aY}{w:cf}{A:dm}{E:Value->aC->Prop}{s:aC}{Q:PySem.Fin->aC->Prop}(calm:A.handled=none)(fin:∀f e,(∀b o,h1.get? b=some o->f.get? b=some o)->(∃o,f.get? e=some o/\o.cls = .type "StopIteration")->E (.ref e) { s with heap:=f }) :
  aE (model prog w) A.in1 (newExc (.type "StopIteration") [] >>= λe=>(raiseNew e)) Q E { s with heap:=h1 }:=by
 refine ac ?_;refine ac (bU ?_ (by size_fits));refine ac (gm (by first | rfl | (rfl)) (bU ?_ (by size_fits)));refine ac (wpAny_handled ?_);rw[calm];refine ac (ag (wpAny_throw ?_));exact fin _ _ (λb o e=>af _ (af _ e)) ⟨_,ay _ rfl,rfl⟩
def Qbc{prog:aY}{w:cf}{A:dm}{E:Value->aC->Prop}{s:aC}(calm:A.handled=none)(f:s.heap.IsTupleIter it I i)(J:s.heap.IsTuple I B)(L:B[i]?=none)(fin:∀l e,Heap.ExtBut it s.heap l->(∃o,l.get? e=some o/\o.cls = .type "StopIteration")->E (.ref e) { s with heap:=l }):aE (model prog w) A (lm (.ref it)) Q E s:=by
 obtain⟨o,ho,hc,hd⟩:=id f;obtain⟨M,j,_,nt,D⟩:=J;refine ac (dN f.typeIs dW (b5 dW f.typeIs iV ?_ (iO _)));refine(show aE _ _ (field (.ref it) 0 >>= _) _ _ s from ac (dQ ho hd rfl ?_));refine(?_);refine(ac (dQ ho hd rfl ?_));refine(ac (iX j D ?_));simp only[c9,L];refine ac (fX (ac (cS ho hd (by simp) ?_)));refine(stopE calm λl e k z=>fin l e (λb o H q=>k b o ((bK _ _ (Ne.symm H)).trans q)) z)
def QmV(calm:A.handled=none) it l (ne:l≠it) f:Draws prog w A it [it,l] f.size (λi v=>f[i]?=some v) (λi h=>h.IsTupleIter it l i/\h.IsTuple l f) where
 live:=λ_ _ st=>let ⟨⟨o,ho,_⟩,_⟩:=st;⟨o,ho⟩
 frame:=λ_ _ _ st k=>⟨st.1.at λo e=>k it (by simp) o e,st.2.at λo e=>k l (by simp) o e⟩
 item:=λi s Q E j st fin=>Qjk st.1 st.2 (aM j) λB z sb=>fin _ B s.toks (aM j) ⟨z,st.2.at λo e=>(sb.2 l ne).trans e⟩ sb
 done:=λs Q E st fin=>Qbc calm st.1 st.2 (b9 (aB _)) fin
set_option tactic.hygienic true in
set_option maxHeartbeats 1000000 in
def Qhy(f:Addr)(l:Array Value)(n:Nat)(B:Option Addr)(D:Array (Option Value)) :
  Meets (je.«enumerate.__new__» ⟨[.type "enumerate",.ref f],[]⟩) (λ_ R s=>s.heap.get? f=some { cls := .type "tuple",dict:=B,data := .seq l n,slots:=D } /\
   R (.ok (.ret (.ref (s.heap.push { cls := .type "tuple_iterator",data := .fields #[.ref f,.int 0 0] }).objs.size)))
    {s with heap:=(s.heap.push { cls := .type "tuple_iterator",data := .fields #[.ref f,.int 0 0] }).push { cls := .type "enumerate",data := .fields #[.none,.bool false,.ref s.heap.objs.size,bP 0,.none,.none] } }) :=
 .of_wp λprog w A R s h=>by
  obtain⟨E,g,d,tk,os⟩:=s;obtain⟨j,h⟩:=h;have sub:=sub_enumerate;have T:Heap.IsTuple (aC.heap ⟨E,g,d,tk,os⟩) f l:=⟨_,j,rfl,n,rfl⟩
  wp_walk using cn j
  refine wpAny_stack_any λst=>ag ?_;split
  .rename_i c _ _ _ _ _;cases (c==Value.type "enumerate")
   .wp_walk using cn j,fD T
    exact⟨_,rfl,h⟩
   .wp_walk using cn j,fD T
    exact⟨_,rfl,h⟩
  .wp_walk using cn j,fD T
   exact⟨_,rfl,h⟩
def QjH(T:s.heap.IsTuple f l)(fin:∀B,IsEnum B (s.heap.objs.size+1) s.heap.objs.size 0 .none->B.IsTupleIter s.heap.objs.size f 0->(∀b o,s.heap.get? b=some o->B.get? b=some o)->Q (.ref (s.heap.objs.size+1)) { s with heap:=B }) :
  aE (model prog w) A (call (.type "enumerate") [.ref f]) Q E s:=by
 obtain⟨⟨c,j,D,H⟩,I,hc,n,hd⟩:=T;obtain rfl:c = .type "tuple":=hc;obtain rfl:D = .seq l n:=hd;refine callType_new PySem.F.called_enumerate (by decide) (PySem.F.typeCall_enumerate_1 _) (PySem.F.newCall_enumerate_1 _) (λobj=>jF obj _) PySem.F.entry_enumerate_new (Qhy f l n j H) ⟨I,?_⟩;have z:(s.heap.push { cls := .type "tuple_iterator",data := .fields #[.ref f,.int 0 0] }).objs.size=s.heap.objs.size+1:=bH ..;have he:IsEnum ((s.heap.push { cls := .type "tuple_iterator",data := .fields #[.ref f,.int 0 0] }).push { cls := .type "enumerate",data := .fields #[.none,.bool false,.ref s.heap.objs.size,bP 0,.none,.none] }) (s.heap.objs.size+1) s.heap.objs.size 0 .none:=by
  rw[<-z];exact ay _ rfl
 refine(?_);rw[z];exact⟨⟨_,he,rfl⟩,fin _ he ⟨_,af _ (ay _ rfl),rfl,rfl⟩ λb o q=>af _ (af _ q)⟩
end
end L2.PM
namespace L2.PM
open PySem PySem.Spec PyProof.Rows
section
def _root_.L2.Inv.turnsNew{ch:List Addr}(I:Inv X f L H s)(hf:∀b∈ch,FpOk X f H b)(k:∀b u,b∉ch->s.heap.get? b=some u->D.get? b=some u)(J:s.heap.objs.size<=T)(new:ObjOk X.prog X.w (upd H T o) D T o):Inv X f L (upd H T o) { s with heap:=D,toks:=tk }:=by
 have j :=I.hok.fresh J;have lt:∀b u,s.heap.get? b=some u->b≠T:=λb u e z=>absurd (aF (aD e) (z▸J)) (b4 _);have l:∀b u,H b=some u->b∉ch:=λb u e z=>by rw[(hf b z).1]at e;cases e
 refine I.call' rfl ⟨λb u e _ _ hc=>k b u hc e,λb u e _ _ hc=>⟨u.slots,k b u hc e⟩,λb u e n _=>by rw[Qh (lt b u e)];exact n,λb u e hc=>⟨u,k b u hc e⟩,λb xs e=>by rw[Qh (Qg e j)];exact e,
  λb u v e=>by rw[Qh (Qg e j)];exact e,λb ps e=>⟨#[],by rw[Qh (Qg e j)];simpa using e⟩⟩ (λb u e=>?_) I.bare λb B=>?_
 .by_cases B:b=T
  .subst B;rw[Qf]at e;cases e;exact new
  .rw[Qh B]at e;refine(I.hok b u e).stay (λc v hc q=>k c v ?_ q) (λc q=>by rw[Qh (Qg q j)];exact q) λc xs q=>by rw[Qh (Qg q j)];exact q
   rcases hc with z | z
   .rw[z];exact l b u e
   .exact l c _ z
 .obtain⟨_,E,_,M,O,U⟩:=hf b B;exact⟨M,E,O,U⟩
def _root_.L2.Inv.turns{ch:List Addr}(I:Inv X f l H s)(hf:∀b∈ch,FpOk X f H b)(k:∀b u,b∉ch->s.heap.get? b=some u->B.get? b=some u):Inv X f l H { s with heap:=B,toks:=tk }:=by
 have j:∀b u,H b=some u->b∉ch:=λb u e z=>by rw[(hf b z).1]at e;cases e
 refine I.call' rfl ⟨by grind,λb u e _ _ hc=>⟨u.slots,k b u hc e⟩,λb u e n _=>n,by grind,λb xs e=>e,λb u v e=>e,λb ps e=>⟨#[],by grind⟩⟩ (λb u e=>?_) I.bare λb D=>?_
 .refine(I.hok b u e).stay (λc v hc q=>k c v ?_ q) (λc q=>q) λc xs q=>q;grind
 .obtain⟨_,E,_,J,L,M⟩:=hf b D;grind
end
def Ite(f:Hp->List V->Prop):It :=
 ⟨λi H=>∃xs x,f H xs/\xs[i]?=some x,λi H v j=>∃T x,v = .ref T/\H T=none/\j=upd H T (.tup [.int i,x])/\∀xs,f H xs->xs[i]?=some x,λi H=>∃xs,f H xs/\xs.length<=i⟩
def QiY{P:aY}{w:cf}{K:aa}{M:List Expr}{kk:Nat}{pp:Pos} a it e (av:e≠it):Turn P w K (.Tuple M kk pp) (Ite λH xs=>SqT K H a xs) [e,it] e (λi h=>(∃l,IsEnum h e it i l)/\h.IsTupleIter it a i) where
 mem:=by simp
 obj:=λi h st b L=>by
  obtain⟨⟨l,he⟩,o,ho,c,d⟩:=st;rcases ap.mp L with z | z
  .subst z;exact⟨_,he,λv q=>by
    cases q⟩
  .rw[al.mp z];exact⟨o,ho,λv q=>by rw[d]at q;cases q⟩
 keep:=λi h h' st k=>by
  obtain⟨⟨l,he⟩,f⟩:=st;exact⟨⟨l,k e (by simp) _ he⟩,f.at λo q=>k it (by simp) o q⟩
 item:=by
  intro X hP hw hK hc i O s σ H E I hf st hg;subst hP hw hK;obtain⟨xs,x,hq,hx⟩:=hg;obtain⟨U,rv,p,hz⟩:=I.tuple hq;obtain⟨u,hu,ru⟩:=rv.get hx;have hi :=(aw.mp hu).1;have aq:a≠it:=λz=>by
   obtain⟨⟨oi,aj,ci,_⟩⟩:=(⟨st.2⟩:Nonempty _)
   obtain⟨oa,B,ca,_⟩:=p;rw[z,aj]at B;cases B;rw[ci]at ca;exact absurd ca (by decide)
  have ak:e∉[it,a]:=λz=>by
   rcases ap.mp z with z | z
   .exact av z
   .have z:=al.mp z;obtain⟨⟨l,he⟩,_⟩:=st;obtain⟨oa,B,ca,_⟩:=p;rw[<-z,he]at B;cases B;exact absurd (show Value.type "enumerate"=Value.type "tuple" from ca) (by decide)
  have W:=WalksT.enumerateD (QmV (prog:=X.prog) (w:=X.w) (A:=X.A.in1) (by have:=I.ok.hd hc;simp[this]) it a aq U.toArray) e av ak (by simp);refine W.item i s _ _ (by simpa using hi) ⟨st.1,st.2,p⟩ λT aZ h1 tk hp hT tup mid k1=>?_;obtain⟨tt,y,Y,rfl⟩:=hp;have Y :=by
   rw[iq,hu]at Y;exact(br Y).symm
  subst Y;have J:=W.apart i T h1 mid;refine⟨_,rfl,W.go M kk pp i T { s with heap:=h1,toks:=tk } _ _ mid λh2 f k2=>?_⟩;have hn:H T=none:=I.hok.fresh hT;have az:h2.IsTuple T #[.int i tt,y]:=tup.at λo q=>k2 T o J q;have I2:Inv X O σ (upd H T (.tup [.int i,x])) { s with heap:=h2,toks:=tk }:=I.turnsNew (ch:=[e,it]) (o := .tup [.int i,x]) hf (λb o L q=>k2 b o L (k1 b o L q)) hT ⟨by show 2<=aI;decide,[.int i tt,y],.cons ⟨tt,rfl⟩ (.cons ru .nil),Xb.pair az⟩;refine⟨.ref T,_,I2,rfl,⟨T,x,rfl,hn,rfl,λys Y=>by rw[I.tuple_inj Y hq];exact hx⟩,⟨f.1,f.2.1⟩,λb L=>?_⟩;have aJ:b≠T:=λz=>J (z▸L);rw[Qh aJ];exact(hf b L).1
 done:=by
  intro X hP hw hK hc i O s σ H E I hf st hg;subst hP hw hK;obtain⟨xs,hq,hx⟩:=hg;obtain⟨U,rv,p,hz⟩:=I.tuple hq;have bv:=rv.length;obtain⟨⟨l,he⟩,f⟩:=st;have D:Draws X.prog X.w X.A.in1 it [it,a] i (λ_ _=>True) (λj h=>j=i/\h.IsTupleIter it a i/\h.IsTuple a U.toArray) :=
   {live:=λ_ _ q=>let ⟨_,⟨o,ho,_⟩,_⟩:=q;⟨o,ho⟩
    frame:=λ_ _ _ q k=>⟨q.1,q.2.1.at λo z=>k it (by simp) o z,q.2.2.at λo z=>k a (by simp) o z⟩
    item:=λj s Q E hj q _=>absurd q.1 (aL hj)
    done:=λs Q E q fin=>Qbc (by have:=I.ok.hd hc;simp[this]) q.2.1 q.2.2 (by simp;lia) fin }
  exact l0 D he ⟨rfl,f,p⟩ λh1 k=>⟨rfl,I.turns hf λb o L q=>k b o (λz=>L (by simp[z])) q⟩
 self:=λA i s Q E st h=>hZ st.1.choose_spec h
section
def im_seq(h:EM X ms e m):IM X ms D e (iSeq m):=by
 intro f s j H R I q;obtain⟨F,l,xs,h1,h2,B,w⟩:=q;obtain⟨p,e1,e2⟩:=Qb B;cases p with
 |lst ys =>
  cases e2;exact im_lst h f s j H R I ⟨F,l,_,h1,h2,by unfold iLst;rw[e1];rfl,w⟩
 |tup ys =>
  cases e2;exact im_tup h f s j H R I ⟨F,l,_,h1,h2,by unfold iTpl;rw[e1];rfl,w⟩
 |_=>cases e2
def pi_enumT(O:Gl X "enumerate")(hm:X.mg "enumerate"=none)(T:PA X [a] U)(Y:ah [a] X.env=[(false,eval a X.env)]:=by rfl) :
  PI X (.Tuple M kk pp) (.Call (.Name "enumerate" p) [a] [] J) (λL H R=>U L H λvs B=>∃l,vs=[.ref l]/\(∃xs,SqT X.K B l xs)/\R (Ite λH xs=>SqT X.K H l xs) B):=by
 intro f s L H R I h;refine Call_ (Qbt I O hm (show cI "enumerate"=some (.type "enumerate") from by kernel_rfl) (cX (thn (T J f s L H _ I h) λus s1 zz=>?_) Y rfl));obtain⟨vs,B,D,r1,q1⟩:=zz;obtain⟨l,rfl,⟨xs,hq⟩,q⟩:=q1;obtain⟨u,rfl,ru⟩:=Yq r1;cases ru;obtain⟨av,rv,pt,hz⟩:=D.tuple hq;refine QjH (pt) λh' he E k=>?_;refine hZ he ?_;refine⟨s1.heap.objs.size+1,[s1.heap.objs.size+1,s1.heap.objs.size],_,_,B,rfl,D.kept k,QiY l s1.heap.objs.size (s1.heap.objs.size+1) (me _),⟨⟨_,he⟩,E⟩,λb hb=>?_,q⟩;have j:s1.heap.objs.size<=b:=by
  rcases ap.mp hb with z | z
  .rw[z];exact dy _
  .rw[al.mp z];exact aB _
 exact D.fpOk j (D.hok.fresh j)
def im_enumT(hc:X.calm=true)(O:Gl X "enumerate")(hm:X.mg "enumerate"=none)(U:AM X ms [a] Y)(hs:ah [a] X.env=[(false,eval a X.env)]:=by rfl) :
  IM X ms (.Tuple D kk pp) (.Call (.Name "enumerate" p) [a] [] av) (Qc QbN Y) :=
 PI.imp (pi_enumT O hm U hs) λσ H R zz=>by
  obtain⟨F,γ,xs,k1,k2,k3,w⟩:=zz;obtain⟨qs,e1,k3⟩:=Qb k3;refine⟨F,γ,qs,k1,k2,e1,λvs H1 F1 E j=>?_⟩;delta QbN at k3;split at k3
  .cases k3;obtain⟨v,t,rfl,j,qt⟩:=j;subst qt;obtain⟨l,us,rfl,f,B⟩:=j;refine⟨l,rfl,⟨us,E.sub.seqT f⟩,w _ _ _ E ?_⟩;refine⟨λi I J e2=>?_,λi I v H3 J e2 y=>?_,λI e2=>?_⟩
   .have hv:i<us.length:=by
     rw[B.length];simpa using J
    exact⟨us,us[i],e2.seqT f,by simp[hv]⟩
   .obtain⟨T,x,rfl,L,rfl,y⟩:=y;obtain⟨p,e3,e4⟩:=B.back (y us (e2.seqT f));refine⟨.tup [pN i,p],?_,λF2 x1 M=>?_⟩
    .simp[e3]
    .refine⟨upd F2 T (.tup [.int i,x]),.laid M L,?_⟩;exact⟨T,[.int i,x],rfl,.of Qf,.cons (Qp _) (.cons (e4.mono (x1.trans (Grow.laid M L).ext)) .nil)⟩
   .exact⟨us,e2.seqT f,by rw[B.length];simp⟩
  .cases k3
end
namespace SF
def ri_nolen:kF (.type "list_reverseiterator") "__len__"=pure none:=by rw[typeLookup_type,builtinLookup_eq_fast];kernel_rfl
def ri_hint:kF (.type "list_reverseiterator") "__length_hint__"=pure (some (.builtin "list_reverseiterator.__length_hint__")):=by kernel_rfl
def ri_self:isSubtype (.type "list_reverseiterator") (.type "list_reverseiterator")=pure true:=by kernel_rfl
end SF
section
def Qnt(h:c=false)(q:aE M A b R E s):aE M A (if c=true then a else b) R E s:=by
 rw[aK (by rw[h];decide)];exact q
def hint_rev(T:s.TypeIs (.ref I) "list_reverseiterator")(h:R false s):aE (model prog w) A (gK (.ref I)) R E s:=by
 refine ac (j9 T SF.ri_nolen ?_);refine Qnt (by kernel_rfl) (Qnt (by kernel_rfl) (ac (j9 T SF.ri_hint ?_)));refine ac (fY T SF.ri_self ?_);simp only[iN,eu,iu];refine ite_t (by kernel_rfl) (Qnt (by kernel_rfl) ?_);exact ag h
def Qjz{I l:Addr}{B:Array Value}{R:kP->aC->Prop}(calm:A.handled=none)(J:s.heap.IsRevIter I l (B.size-1))(hl:s.heap.IsList l B)(Y:l≠I)(M:B.size<=aI) D O L
  (hD:s.heap.get? D=some { cls := .type "list",data := .seq #[] L }) (dl:D≠l)
  (fin:∀h' tk U,(∀b o,b≠D->b≠I->s.heap.get? b=some o->h'.get? b=some o)->h'.get? D=some { cls := .type "list",dict:=none,data := .seq B.reverse U,slots := #[] }->R (.ok (.ret O)) { s with heap:=h',toks:=tk }) :
  aE (model prog w) A.in1 (eR (.ref D) (.ref I) O) (λfin s'=>match fin with | .done f=>R (.ok f) s' | .again U=>U.quiet=true/\fC (model prog w) A U R s') (λe s'=>R (.error e) s') s:=by
 have H:D≠I:=λz=>by
  obtain⟨o,ho,c,_⟩:=J;rw[z,ho]at hD;cases hD;exact absurd (show Value.type "list"=Value.type "list_reverseiterator" from c) (by decide)
 refine ac (iA J.typeIs ?_);have q1:fA (.ref D) (.ref I)=false:=by simp[fA,H]
 simp only[q1,    iu];refine ac (iY J (ac (cr (hint_rev J.typeIs ?_))));refine Qnt (by kernel_rfl) ?_;have W:=Walks.listRev (prog:=prog) (w:=w) (A:=A.in1) (by simp[calm]) I l Y B;have av:D∉[I,l]:=λz=>by
  rcases ap.mp z with z | z
  .exact H z
  .exact dl (al.mp z)
 refine ag ⟨gc jO _,mL W.toS M D av O B.size 0 _ #[] L rfl (cG _) ⟨cG _,by simpa using J,hl⟩ hD (ItemsOf.nil _) λs' acc c hm T E=>?_⟩;obtain⟨h3,g3,d3,az,aq⟩:=s';obtain rfl:g3=s.gens:=hm.gens;obtain rfl:d3=s.drawn:=hm.drawn;obtain rfl:aq=s.os:=hm.os;have e:acc=B.reverse:=by
  apply Array.ext_getElem?;intro j;by_cases hj:j<B.size
  .have g:acc[j]?=some (acc[j]'(by rw[E.1];exact hj)):=aM _;have:=E.2 j _ g;rw[g,<-this];simp[hj]
  .rw[b9 (by rw[E.1];lia),b9 (by simp;lia)]
 rw[e]at T;exact fin h3 az c (λb o b1 b2 q=>hm.heap b o (λz=>by
  rcases ap.mp z with z | z
  .exact b1 z
  .exact b2 (al.mp z)) q) T
end
section
def Qnh(X:Cx)(I l:Addr)(n:Nat):HO := .ext λh=>(I∈X.ex\/X.s₀.heap.objs.size<=I)/\h.IsRevIter I l (n-1)
def QmY:YQ X (.type "reversed") (λvs H Q=>∃l xs,vs=[.ref l]/\SqL X.K H l xs/\∀p,H p=none->Q (.ref p) (upd H p (Qnh X p l xs.length))):=by
 intro j s L H vs us Q I rs h;obtain⟨l,xs,rfl,hl,q⟩:=h;obtain⟨u,rfl,D⟩:=Yq rs;cases D;obtain⟨f,E,J,_⟩:=I.list hl;refine call_reversed_list J.isList ?_;have e:(f.toArray.size)=xs.length:=by rw[aQ,E.length]
 have z:(s.heap.push (revObj l (f.toArray.size-1))).IsRevIter s.heap.objs.size l (xs.length-1):=⟨_,ay _ rfl,rfl,by rw[<-e];rfl⟩
 refine⟨.ref s.heap.objs.size,_,I.laid (o:=Qnh X s.heap.objs.size l xs.length) (λb o q=>af _ q) (aB _) ⟨⟨.inr I.sz,z⟩,⟨_,ay _ rfl⟩,λh1 h2 B k1=>⟨B.1,B.2.at k1⟩⟩,rfl,q _ I.fresh⟩
end
end L2.PM
namespace L2.PM
open PySem PySem.Spec PyProof.Rows
open PySem.AutoSeq1 (wpAny_loadPart')
section
def QhO{I l:Addr}{D:Array Value}{Q:List Value->aC->Prop}(calm:A.handled=none)(L:s.heap.IsRevIter I l (D.size-1))(hl:s.heap.IsList l D)(M:l≠I)(J:D.size<=aI)(fin:∀B tk,(∀b o,b≠I->s.heap.get? b=some o->B.get? b=some o)->s.heap.objs.size<=B.objs.size->Q D.reverse.toList { s with heap:=B,toks:=tk }):aE (model prog w) A (collect (.ref I)) Q E s:=by
 refine ac (gN (cY jB ?_));refine(ac (bU (ag ⟨gc gT _,cY j7 ?_⟩)));have nl:s.heap.objs.size≠l:=λz=>by
  obtain⟨o,ho,_⟩:=hl;exact absurd (aD ho) (by rw[z];exact b4 _)
 have H:(s.heap.push { cls := .type "list",data := .seq [].toArray }).get? s.heap.objs.size=some { cls := .type "list",data := .seq #[] 0 }:=ay _ rfl;refine(?_);have go:∀(r:kP)(s':aC),(∃B tk j,r = .ok (.ret (.ref s.heap.objs.size))/\s'={ s with heap:=B,toks:=tk }/\(∀b o,b≠s.heap.objs.size->b≠I->(s.heap.push { cls := .type "list",data := .seq [].toArray }).get? b=some o->B.get? b=some o) /\
   B.get? s.heap.objs.size=some { cls := .type "list",dict:=none,data := .seq D.reverse j,slots := #[] })->(match r with
    | .ok (.ret v)=>aE (model prog w) A (match v with
     | .ref a=>do
      match (<-load a).data with
       |.seq xs _=>pure xs.toList
       |_=>unsupported "internal:collect"
     |_=>unsupported "internal:collect") Q E s'
    |.ok _=>False
    |.error e=>E e s'):=by
  rintro r s' ⟨B,tk,j,rfl,rfl,k,z⟩;refine(ac (kD z (ag ?_)));exact fin B tk (λb o T q=>k b o (aL (aD q)) T (af _ q)) (b8 (aD z))
 refine da (Qjz (R:=λr s'=>∃B tk j,r = .ok (.ret (.ref s.heap.objs.size))/\s'={ s with heap:=B,toks:=tk }/\(∀b o,b≠s.heap.objs.size->b≠I->(s.heap.push { cls := .type "list",data := .seq [].toArray }).get? b=some o->B.get? b=some o) /\
   B.get? s.heap.objs.size=some { cls := .type "list",dict:=none,data := .seq D.reverse j,slots := #[] })
  calm (L.at λo q=>af _ q) (hl.at λo q=>af _ q) M J _ _ 0 H nl λB tk j k z=>⟨B,tk,j,rfl,rfl,k,z⟩) (λf s' h=>?_) λe s' h=>?_
 .cases f with
  |done f=>exact go _ _ h
  |again j=>exact⟨h.1,fh h.2 λr O hr=>go r O hr⟩
 .exact go _ _ h
set_option maxHeartbeats 2000000 in
def Qgf(I l:Addr)(f:Array Value)(o:Obj)(B:f.size<=aI)(J:l≠I) :
  Meets (je.«tuple.__new__» ⟨[.type "tuple",.ref I],[]⟩) (λA R s=>A.handled=none/\s.heap.get? I=some o/\s.heap.IsRevIter I l ((f.size:Int)-1)/\s.heap.IsList l f /\
   ∀(D:Heap)(tk:Nat),(∀b u,b≠I->s.heap.get? b=some u->D.get? b=some u)->s.heap.objs.size<=D.objs.size->R (.ok (.ret (.ref D.objs.size))) { s with heap:=D.push { cls := .type "tuple",data := .seq f.reverse },toks:=tk }) :=
 .of_wp λprog w A R s h=>by
  obtain⟨calm,M,j,hl,h⟩:=h;obtain⟨O,g,d,E,os⟩:=s;have L:=sub_tuple_self;have H:=init_tuple_lookup;have T:=madeHere_tuple;have U:lv ⟨O,g,d,E,os⟩ (.ref I) "list_reverseiterator":=j.typeIs
  wp_walk using cn M,iA U,QhO (A:=A.in1) (by simp[calm]) j hl J B
  intro D tk k sz;refine(show aE _ _ (lL f.reverse.toList.toArray >>= λv=>ret v) _ _ _ from ?_);delta lL;refine ac (bU ?_ (by show f.reverse.toList.toArray.size<=aI;simpa using B));refine ag ⟨_,rfl,?_⟩;rw[show f.reverse.toList.toArray=f.reverse from Array.toArray_toList];exact h D tk k sz
def QlN(calm:A.handled=none)(J:s.heap.IsRevIter I l (f.size-1))(hl:s.heap.IsList l f)(L:l≠I)(B:f.size<=aI)(fin:∀(D:Heap) tk,(∀b u,b≠I->s.heap.get? b=some u->D.get? b=some u)->s.heap.objs.size<=D.objs.size->Q (.ref D.objs.size) { s with heap:=D.push { cls := .type "tuple",data := .seq f.reverse },toks:=tk }) :
  aE (model prog w) A (call (.type "tuple") [.ref I]) Q E s:=by
 obtain⟨o,ho,_⟩:=id J;exact callType_new PySem.F.called_tuple (by decide) (PySem.F.typeCall_tuple_1 _) (PySem.F.newCall_tuple_1 _) (λobj=>jF obj _) PySem.F.entry_tuple_new (Qgf I l f o B L) ⟨by simp[calm],ho,J,hl,λD tk k sz=>⟨⟨_,ay _ rfl,rfl⟩,fin D tk k sz⟩⟩
end
section
def Qgn(hc:X.calm=true):YQ X (.type "tuple") (λvs H Q=>∃J l xs,vs=[.ref J]/\H J=some (Qnh X J l xs.length)/\SqL X.K H l xs /\
  ∀p D,H p=none->D p=some (.tup xs.reverse)->(∀b,b≠J->b≠p->D b=H b)->Q (.ref p) D):=by
 intro O s σ H vs us Q I rs h;obtain⟨J,l,xs,rfl,j,hl,q⟩:=h;obtain⟨u,rfl,ru⟩:=Yq rs;cases ru;obtain⟨E,rv,pl,hz⟩:=I.list hl;obtain⟨⟨own,z⟩,_,_⟩:=I.hok J _ j;have len:xs.length=E.toArray.size:=by rw[aQ,rv.length]
 rw[len]at z;have av:l≠J:=λy=>by
  obtain⟨o,ho,cc,_⟩:=z;obtain⟨o2,T,U,_⟩:=pl.isList;rw[y,ho]at T;cases T;rw[cc]at U;exact absurd U (by decide)
 refine QlN (I.ok.hd hc) z pl.isList av (by rw[<-len];exact hz) λL tk k sz=>?_;have lt:∀b u,s.heap.get? b=some u->b≠L.objs.size:=λb u e=>aL (aF (aD e) sz);have hn :=I.hok.fresh sz;have az:J≠L.objs.size:=λy=>by rw[y,hn]at j;cases j
 let D :=λb=>if b=J then none else upd H L.objs.size (.tup xs.reverse) b;have e2:∀b,b≠J->D b=upd H L.objs.size (.tup xs.reverse) b:=λb f=>aK f;have e3 :=λb f hp=>(e2 b f).trans (Qh hp);have ep :=(e2 _ (Ne.symm az)).trans Qf;have B:∀b u,H b=some u->(∀M,u≠.ext M)->D b=some u:=λb u e hu=>by
  rw[e3 b (λy=>by rw[y,j]at e;exact hu _ (br e).symm) (Qg e hn)];exact e
 have k2:∀b u,b≠J->s.heap.get? b=some u->(L.push { cls := .type "tuple",data := .seq E.toArray.reverse }).get? b=some u:=λb u f e=>af _ (k b u f e);have I2:Inv X O σ D { s with heap:=L.push { cls := .type "tuple",data := .seq E.toArray.reverse },toks:=tk }:=by
  refine I.call' (ch:=[J]) rfl ⟨λb u e _ _ f=>k2 b u (by simpa using f) e,λb u e _ _ f=>⟨u.slots,k2 b u (by simpa using f) e⟩,λb u e n f=>by rw[e3 b (by simpa using f) (lt b u e)];exact n,λb u e f=>⟨u,k2 b u (by simpa using f) e⟩,
   λb ys e=>B b _ e (λM y=>by cases y),λb u v e=>B b _ e (λM y=>by cases y),λb ps e=>⟨#[],by rw[B b _ e (λM y=>by cases y)];simp⟩⟩ (λb u e=>?_) I.bare λb f=>?_
  .by_cases f:b=L.objs.size
   .subst f;rw[ep]at e;cases e;exact⟨by rw[eT];exact hz,E.reverse,rv.reverse,⟨_,ay _ rfl,rfl,.inl rfl,0,by simp⟩⟩
   .have Y:b≠J:=λy=>by
     rw[y]at e;have:D J=none:=au rfl;rw[this]at e;cases e
    rw[e3 b Y f]at e;refine(I.hok b u e).stay (λc v aq qq=>k2 c v ?_ qq) (λc qq=>B c _ qq (λM y=>by cases y)) λc ys qq=>B c _ qq (λM y=>by cases y);rcases aq with y | y
    .rw[y];exact Y
    .intro y2;rw[y2,j]at y;cases y
  .rw[al.mp f];refine⟨own,λy=>?_,λx c e y=>?_,λp hp y=>?_⟩
   .rw[y,I.free]at j;cases j
   .rw[<-y,I.freeC x c e]at j;cases j
   .rw[<-y,(I.pin p hp).2.1]at j;cases j
 exact⟨.ref L.objs.size,D,I2,rfl,q _ _ hn ep e3⟩
def em_tupRev(hc:X.calm=true)(hg:Gl X "reversed")(hm:X.mg "reversed"=none)(T:Gl X "tuple")(U:X.mg "tuple"=none)(ha:AM X ms [a] ma)(hs:ah [a] X.env=(false,eval a X.env)::ah [] X.env:=by rfl)(Y:(bx B (ah [] X.env)).any (·.1)=false:=by rfl)(I:ah [.Call (.Name "reversed" p1) [a] [] B] X.env=(false,eval (.Call (.Name "reversed" p1) [a] [] B) X.env)::ah [] X.env:=by rfl)(J:(bx L (ah [] X.env)).any (·.1)=false:=by rfl) :
  EM X ms (.Call (.Name "tuple" p2) [.Call (.Name "reversed" p1) [a] [] B] [] L) (Qc Qnn ma) :=
 PE.imp (ZS (Qgn hc) T U (by kernel_rfl) (ZK (ZS QmY hg hm (by kernel_rfl) ha (by decide) (by decide) hs Y) Qav I) (by decide) (by decide) I J) λσ H Q zz=>by
  obtain⟨F,γ,r,k1,k2,k3,w⟩:=zz;obtain⟨qs,e1,k3⟩:=Qb k3;refine⟨F,γ,qs,k1,k2,e1,λvs E D M q1=>?_⟩;delta Qnn at k3;split at k3
  .cases k3;obtain⟨v,t,rfl,q1,qt⟩:=q1;subst qt;obtain⟨l,us,rfl,sl,rl⟩:=q1;refine⟨l,us,rfl,M.sub.seq sl,λp hp=>?_⟩;have g2:Grow D E D (upd E p (Qnh X p l us.length)) := .side M.sub hp;refine⟨p,l,us,rfl,Qf,g2.sub.seq sl,λp2 H2 j av rest=>?_⟩;have np:p2≠p:=λy=>by rw[y,Qf]at j;cases j
   have f:E p2=none:=by rw[Qh np]at j;exact j
   have hF:D p2=none:=M.sub.free f;have same:∀b o,E b=some o->H2 b=some o:=λb o e=>by
    rw[rest b (Qg e hp) (Qg e f),Qh (Qg e hp)];exact e
   have ext:Same D (upd D p2 (.tup us.reverse)):=λb o e=>by rw[Qh (Qg e hF)];exact e
   have g3:Grow D E (upd D p2 (.tup us.reverse)) H2:=⟨ext,λb o e=>by
    by_cases O:b=p2
    .subst O;rw[Qf]at e;rw[av];exact e
    .rw[Qh O]at e;exact same b o (M.sub b o e),same,λb o e=>by
    by_cases O:b=p2
    .subst O;exact .inr f
    .rw[Qh O]at e;exact .inl e⟩
   refine w _ _ _ (M.trans g3) ?_;exact⟨p2,us.reverse,rfl,.of Qf,(rl.mono ext).reverse⟩
  .cases k3
def Itv(K:aa)(l:Addr)(n:Nat):It :=
 ⟨λi H=>∃xs x,SqL K H l xs/\xs.length=n/\xs.reverse[i]?=some x,λi H x f=>f=H/\∀xs,SqL K H l xs->xs.length=n->xs.reverse[i]?=some x,λi H=>∃xs,SqL K H l xs/\xs.length=n/\i=n⟩
def turn_rev{P:aY}{w:cf}{K:aa}{tg:Expr} l it n (az:l≠it):Turn P w K tg (Itv K l n) [it] it (λi h=>i<=n/\h.IsRevIter it l (n-1-i)) where
 mem:=by simp
 obj:=λi h st b j=>by
  rw[al.mp j];obtain⟨_,o,e,c,d⟩:=st;exact⟨o,e,λv z=>by rw[d]at z;cases z⟩
 keep:=λi h h' st k=>⟨st.1,st.2.at λo e=>k it (by simp) o e⟩
 item:=by
  intro X hP hw hK hc i B s σ H E I hf st D;subst hP hw hK;obtain⟨xs,x,J,hn,hx⟩:=D;obtain⟨L,rv,p,hz⟩:=I.list J;obtain⟨u,M,ru⟩:=rv.reverse.get hx;obtain⟨f0,O,f2,T,U,Y⟩:=hf it (by simp);have hl:=rv.length;have hi :=by
   have:=(aw.mp M).1;simpa using this
  have ei:(n:Int)-1-(i:Nat)=((n-1-i:Nat):Int):=by lia
  have av:L.toArray[n-1-i]?=some u:=by
   rw[List.getElem?_reverse (by lia)]at M;rw[iq,<-M];congr 1;lia
  have f:=st.2;rw[ei]at f;refine wpAny_pyNext_rev_item f p.isList av λh' z sb=>?_;have e2:((n-1-i:Nat):Int)-1=(n:Int)-1-((i+1:Nat):Int):=by lia
  rw[e2]at z;have I1 :=I.turned (t':=s.toks) (λb o j e=>(sb.2 b j).trans e) f0 O T U Y;obtain⟨o,e,c,d⟩:=id z;exact⟨u,rfl,QhE e c d (by decide) ⟨x,H,I1,ru,⟨rfl,λys hy _=>by rw[I.list_inj hy J];exact hx⟩,⟨by lia,z⟩,λb j=>(hf b j).1⟩⟩
 done:=by
  intro X hP hw hK hc i B s σ H E I hf st D;obtain⟨xs,J,hn,rfl⟩:=D;obtain⟨f0,O,f2,T,U,Y⟩:=hf it (by simp);have f:=st.2;rw[show(i:Int)-1-i = -1 by lia]at f;exact wpAny_pyNext_rev_end (I.ok.hd hc) f λh' eb=>⟨rfl,I.turned (λb o j e=>eb b o j e) f0 O T U Y⟩
 self:=λ_ _ _ _ _ st h=>iY st.2 h
def pi_rev{M:TA}(O:Gl X "reversed")(hm:X.mg "reversed"=none)(T:PA X [a] M)(U:ah [a] X.env=[(false,eval a X.env)]:=by rfl) :
  PI X tg (.Call (.Name "reversed" p) [a] [] J) (λL H R=>M L H λvs B=>∃l xs,vs=[.ref l]/\SqL X.K B l xs/\R (Itv X.K l xs.length) B):=by
 intro f s L H R I h;refine Call_ (Qbt I O hm (show cI "reversed"=some (.type "reversed") from by kernel_rfl) (cX (thn (T J f s L H _ I h) λus s1 Y=>?_) U rfl));obtain⟨vs,B,D,r1,q1⟩:=Y;obtain⟨l,xs,rfl,hq,q⟩:=q1;obtain⟨u,rfl,ru⟩:=Yq r1;cases ru;obtain⟨j,rv,E,hz⟩:=D.list hq;refine call_reversed_list E.isList ?_;have e:((j.toArray.size:Nat))=xs.length:=by rw[aQ,rv.length]
 have z:(s1.heap.push (revObj l (j.toArray.size-1))).IsRevIter s1.heap.objs.size l (xs.length-1-((0:Nat))):=⟨_,ay _ rfl,rfl,by rw[<-e];simp[revObj]⟩
 have nl:l≠s1.heap.objs.size:=λy=>by
  obtain⟨o,ho,_⟩:=E.isList;exact absurd (aD ho) (by rw[y];exact b4 _)
 refine iY z ?_;refine⟨s1.heap.objs.size,[s1.heap.objs.size],_,_,B,rfl,D.kept λb o q=>af _ q,turn_rev l _ xs.length nl,⟨cG _,z⟩,λb hb=>?_,q⟩;rw[al.mp hb];exact D.fpOk (aB _) (D.hok.fresh (aB _))
def im_revL(hc:X.calm=true)(L:Gl X "reversed")(hm:X.mg "reversed"=none)(M:AM X ms [a] O)(T:ah [a] X.env=[(false,eval a X.env)]:=by rfl) :
  IM X ms tg (.Call (.Name "reversed" p) [a] [] U) (Qc pRev O) :=
 PI.imp (pi_rev L hm M T) λσ H R Y=>by
  obtain⟨F,γ,xs,k1,k2,k3,w⟩:=Y;obtain⟨qs,e1,k3⟩:=Qb k3;refine⟨F,γ,qs,k1,k2,e1,λvs H1 F1 B j=>?_⟩;delta pRev at k3;split at k3
  .cases k3;obtain⟨v,t,rfl,j,qt⟩:=j;subst qt;obtain⟨l,us,rfl,f,D⟩:=j;refine⟨l,us,rfl,B.sub.seq f,w _ _ _ B ?_⟩;have E:=D.reverse;refine⟨λi I J e2=>?_,λi I v H3 J e2 y=>?_,λI e2=>?_⟩
   .have hv:i<us.reverse.length:=by rw[E.length];exact J
    exact⟨us,us.reverse[i],e2.seq f,rfl,aR hv⟩
   .obtain⟨rfl,y⟩:=y;obtain⟨p,e3,e4⟩:=E.back (y us (e2.seq f) rfl);exact⟨p,e3,λF2 x1 x2=>⟨F2,.refl x2,e4.mono x1⟩⟩
   .exact⟨us,e2.seq f,rfl,by rw[eT,D.length]⟩
  .cases k3
end
end L2.PM
namespace L2.PM
open PySem
def extK(ms:List Nat)(i:Nat)(f:PEnv):PV->Option mQ->Option Out
 |.tup ys,some (.ow xs)=>if xs.length+ys.length<LIM/\(!ms.contains i)=true then some (.nx ((Qx (flat (.tup ys)) ms f).set i (.ow (xs++ys)))) else none
 |_,_=>none
def sExt(ms:List Nat)(i:Nat)(m:MEx):MSt:=λf=>(m f).bind λr=>extK ms i f r f[i]?
def pRep:PV->PV->Option (List PV)
 |.lst a,.int k=>if -1000<=k/\k<=1000/\a.length<=1000 then some (bS k.toNat a).flatten else none
 |_,_=>none
def Qnp:PV->PV->Option PV
 |.tup a,.tup b=>if a≠[]/\b≠[]/\a.length+b.length<=LIM then some (.tup (a++b)) else none
 |_,_=>none
def bls?:List PV->Option (List Bool)
 |[]=>some []
 |.bl b::xs=>(bls? xs).map (b :: ·)
 |_::_=>none
theorem QeA:∀{xs:List PV}{bs:List Bool},bls? xs=some bs->xs=bs.map PV.bl
 |[],bs,h=>by cases h;rfl
 |.bl b::xs,bs,h=>by
  have h:(bls? xs).map (b :: ·)=some bs:=h;cases e:bls? xs with
  |none=>rw[e]at h;cases h
  |some cs=>rw[e]at h;cases h;rw[QeA e];rfl
 |.non::_,_,h=>by cases h
 |.int _::_,_,h=>by cases h
 |.str _::_,_,h=>by cases h
 |.tup _::_,_,h=>by cases h
 |.lst _::_,_,h=>by cases h
theorem Qez:∀bs ,bls? (bs.map PV.bl)=some bs
 |[]=>rfl
 |b::bs=>by
  show(bls? (bs.map PV.bl)).map (b :: ·)=_;rw[Qez bs];rfl
def Qhx:List PV->Option PV
 |[.lst xs]=>(bls? xs).map λbs=>.bl (bs.all id)
 |_=>none
def Qnq:List PV->Option PV
 |[.lst xs]=>(bls? xs).map λbs=>.bl (bs.any id)
 |_=>none
end L2.PM
namespace L2.PM
open PySem PySem.Spec PyProof.Rows
namespace SF
end SF
section
def IsRv(h:Heap)(a l:Addr)(i:Int):Prop:=∃o,h.get? a=some o/\o.cls = .type "reversed"/\o.data = .fields #[.ref l,bP i]
def IsRv.at(x:IsRv h a l i)(e:∀o,h.get? a=some o->f.get? a=some o):IsRv f a l i:=let ⟨o,ho,r⟩:=x;⟨o,e _ ho,r⟩
end
end L2.PM
namespace L2.PM
open PySem PySem.Spec PyProof.Rows
open PySem.AutoSeq1 (wpAny_loadPart')
def Qjm l items n b f B J (hc:B.cls = .type "tuple") (hd:B.data = .seq f J)
  (L:¬(!items.isEmpty&&cW (items.size+f.size))=true) (D:items.size<=aI) (I:items.size+f.size<=aI+1) :
  Meets (je.«list.extend» ⟨[.ref l,.ref b],[]⟩) (λ_ R s=>s.heap.get? l=some { cls := .type "list",dict:=none,data := .seq items n,slots := #[] }/\s.heap.get? b=some B/\R (.ok (.ret de)) { s with heap:=s.heap.update l (cm λx=>x++f),toks:=s.toks }) :=
 .of_wp λprog w A R s h=>by
  obtain⟨M,O,data2,E⟩:=B;subst hc hd;obtain⟨T,g,d,tk,os⟩:=s;obtain⟨hl,H,h⟩:=h;have U:=jm;have Y:=jn;have j:(items++f).size<=aI+1:=by rw[jd];exact I
  wp_walk using (iJ hl rfl (hz:=D) (_hz':=j)),cn hl,cn H;exact⟨_,rfl,h⟩
section
def rExtT(K:aa):V->List V->Hp->VK->Prop:=λx vs H Q=>∃l b xs f,x = .ref l/\vs=[.ref b]/\H l=some (.lst xs)/\SqT K H b f/\xs.length+f.length<=aI/\Q .non (upd H l (.lst (xs++f)))
def mt_extT:MtM X "list.extend" (rExtT X.K):=by
 intro E s σ H x vs v us Q I M O h;obtain⟨l,b,xs,zs,rfl,rfl,J,T,hz,q⟩:=h;cases M;obtain⟨u,rfl,U⟩:=O.one;cases U;obtain⟨z,j,n,r,hl,e⟩:=I.lstM J;obtain⟨f,L,pt,z2⟩:=I.tuple T;obtain⟨Y,e2,hc,n2,hd⟩:=pt;have av:=L.length;have D:j.toArray.size+f.toArray.size<=aI:=by grind
 have B:¬(!j.toArray.isEmpty&&cW (j.toArray.size+f.toArray.size))=true:=by
  rw[Qis D,jN];grind
 refine fE F.slot_list_extend ⟨_,e,rfl⟩ F.entry_list_extend (F.args_list_extend_2 _ _)
  (Qjm l j.toArray n b f.toArray Y n2 hc hd B (by grind) (by lia)) ⟨e,e2,?_⟩
 refine⟨.non,_,I.lset J e (by simp) (r.append L) ?_,rfl,q⟩;grind
end
end L2.PM
namespace L2.PM
open PySem PySem.Spec PyProof.Rows
section
def om_catT:OpM X (bV .Add) Qnp:=by
 intro f s D H x y v u Q I E J h;obtain⟨F,p,q,r,h1,h2,L,l,w⟩:=h;cases p<;>cases q<;>first
  | (exfalso;cases l;done)
  |skip
 obtain⟨⟨M,O,c⟩,rfl⟩:=Qi l;obtain⟨a,vs,rfl,sa,j⟩:=h2;obtain⟨b,us,rfl,sb,rb⟩:=L;have T:vs≠[]:=by
  intro e;have:=j.length;rw[e]at this;exact M (dD.mp (by simpa using this.symm))
 have U:us≠[]:=by
  intro e;have:=rb.length;rw[e]at this;exact O (dD.mp (by simpa using this.symm))
 refine op_catT f s D H _ _ v u Q I E J ⟨a,b,vs,us,rfl,rfl,h1.seqT sa,h1.seqT sb,T,by rw[j.length,rb.length];exact aS c Qv,λe=>absurd e U,λ_ p B=>?_⟩;refine w _ _ _ (.laid h1 B) ?_;exact⟨p,_,rfl,.of Qf,(j.append rb).mono (Grow.laid h1 B).ext⟩
theorem Qea:∀{bs:List Bool}{f:List Value},Vals (bs.map V.bl) f->f=bs.map eI
 |[],_,h=>by cases h;rfl
 |b::bs,_,h=>by
  cases h with
  |cons h1 h2=>rw[Qea h2,h1];rfl
theorem Qei{K:aa}:∀{bs:List Bool}{vs:List V},RepL K F (bs.map PV.bl) vs->vs=bs.map V.bl
 |[],vs,h=>by
  grind[RepL]
 |b::bs,vs,h=>by
  obtain⟨v,t,rfl,h1,h2⟩:=h;rw[h1,Qei h2];rfl
def QkY{s:aC}{f:Heap}(l:∀b x,b∉[s.heap.objs.size]->(s.heap.push o).get? b=some x->f.get? b=some x):∀b x,s.heap.get? b=some x->f.get? b=some x :=
 λb x e=>l b x (λhm=>by rw[al.mp hm]at e;exact b4 _ (aD e)) (af _ e)
def rng_all(bs:List Bool):((ao bs.length).all λi=>(bs[i]?).getD true)=bs.all id:=by
 rw[dH,bf,bf];constructor
 .intro h x j;obtain⟨i,f,rfl⟩:=dB.mp j;have:=h i (a7.mpr f);simpa[f] using this
 .intro h i f;have f:=a7.mp f;simpa[f] using h bs[i] (bi f)
def rng_any(bs:List Bool):((ao bs.length).any λi=>(bs[i]?).getD false)=bs.any id:=by
 rw[dH,bY,bY];constructor
 .rintro⟨i,f,h⟩;have f:=a7.mp f;exact⟨bs[i],bi f,by simpa[f] using h⟩
 .rintro⟨x,j,h⟩;obtain⟨i,f,rfl⟩:=dB.mp j;exact⟨i,a7.mpr f,by simpa[f] using h⟩
def Qnb(hc:X.calm=true):YQ X (.builtin "all") (λvs H Q=>∃(a:Addr)(bs:List Bool),vs=[.ref a]/\SqL X.K H a (bs.map V.bl)/\Q (.bl (bs.all id)) H):=by
 intro j s O H vs us Q I rs h;obtain⟨a,bs,rfl,h2,D⟩:=h;obtain⟨u,rfl,E⟩:=Yq rs;cases E;obtain⟨J,r,L,_⟩:=I.list h2;have e:=Qea r;subst e;have hl:=L.isList;have l:a<s.heap.objs.size:=by obtain⟨_,e,_⟩:=hl;exact aD e
 refine call_all_walk (hX hl ?_);refine⟨s.heap.objs.size,[s.heap.objs.size,a],[s.heap.objs.size],(bs.map eI).toArray.size,_,_,λi=>(bs[i]?).getD true,rfl,Walks.list (A:=X.A.in1) (I.ok.hd hc) _ a (aL l) (bs.map eI).toArray,
  ⟨⟨_,ay _ rfl,rfl,rfl⟩,hl.push _⟩,λi v s' T U f B=>?_,λY tk M=>?_⟩
 .have f:(bs.map eI)[i]?=some v:=by simpa using f
  rw[aT,ko]at f;obtain⟨b,e,rfl⟩:=f;simp only[e]at B;exact cO B
 .have e:((ao (bs.map eI).toArray.size).all λi=>(bs[i]?).getD true)=bs.all id:=by
   rw[aQ,ai];exact rng_all bs
  rw[e];exact⟨.bl (bs.all id),H,I.kept (QkY M),rfl,D⟩
def Qna(hc:X.calm=true):YQ X (.builtin "any") (λvs H Q=>∃(a:Addr)(bs:List Bool),vs=[.ref a]/\SqL X.K H a (bs.map V.bl)/\Q (.bl (bs.any id)) H):=by
 intro j s O H vs us Q I rs h;obtain⟨a,bs,rfl,h2,D⟩:=h;obtain⟨u,rfl,E⟩:=Yq rs;cases E;obtain⟨J,r,L,_⟩:=I.list h2;have e:=Qea r;subst e;have hl:=L.isList;have l:a<s.heap.objs.size:=by obtain⟨_,e,_⟩:=hl;exact aD e
 refine call_any_walk (hX hl ?_);refine⟨s.heap.objs.size,[s.heap.objs.size,a],[s.heap.objs.size],(bs.map eI).toArray.size,_,_,λi=>(bs[i]?).getD false,rfl,Walks.list (A:=X.A.in1) (I.ok.hd hc) _ a (aL l) (bs.map eI).toArray,
  ⟨⟨_,ay _ rfl,rfl,rfl⟩,hl.push _⟩,λi v s' T U f B=>?_,λY tk M=>?_⟩
 .have f:(bs.map eI)[i]?=some v:=by simpa using f
  rw[aT,ko]at f;obtain⟨b,e,rfl⟩:=f;simp only[e]at B;exact cO B
 .have e:((ao (bs.map eI).toArray.size).any λi=>(bs[i]?).getD false)=bs.any id:=by
   rw[aQ,ai];exact rng_any bs
  rw[e];exact⟨.bl (bs.any id),H,I.kept (QkY M),rfl,D⟩
def cm_all(hc:X.calm=true):QeH X (.builtin "all") Qhx:=by
 intro f s l H vs us Q I rs h;obtain⟨F,ps,r,h1,h2,j,w⟩:=h;refine Qnb hc f s l H vs us Q I rs ?_;delta Qhx at j;split at j
 .obtain⟨bs,e1,rfl⟩:=Qw j;have e2:=QeA e1;subst e2;obtain⟨v,t,rfl,h2,B⟩:=h2;subst B;obtain⟨a,us,rfl,k2,k3⟩:=h2;have e3:=Qei k3;subst e3;exact⟨a,bs,rfl,h1.seq k2,w.here h1 (QB _)⟩
 .cases j
def cm_any(hc:X.calm=true):QeH X (.builtin "any") Qnq:=by
 intro f s l H vs us Q I rs h;obtain⟨F,ps,r,h1,h2,j,w⟩:=h;refine Qna hc f s l H vs us Q I rs ?_;delta Qnq at j;split at j
 .obtain⟨bs,e1,rfl⟩:=Qw j;have e2:=QeA e1;subst e2;obtain⟨v,t,rfl,h2,B⟩:=h2;subst B;obtain⟨a,us,rfl,k2,k3⟩:=h2;have e3:=Qei k3;subst e3;exact⟨a,bs,rfl,h1.seq k2,w.here h1 (QB _)⟩
 .cases j
end
def QiZ{P:aY}{w:cf}{K:aa}{M:List Expr}{kk:Nat}{pp:Pos} a it e (av:e≠it):Turn P w K (.Tuple M kk pp) (Ite λH xs=>SqL K H a xs) [e,it] e (λi h=>(∃l,IsEnum h e it i l)/\h.IsListIter it a i) where
 mem:=by simp
 obj:=λi h st b L=>by
  obtain⟨⟨l,he⟩,o,ho,c,d⟩:=st;rcases ap.mp L with z | z
  .subst z;exact⟨_,he,λv q=>by
    cases q⟩
  .rw[al.mp z];exact⟨o,ho,λv q=>by rw[d]at q;cases q⟩
 keep:=λi h h' st k=>by
  obtain⟨⟨l,he⟩,f⟩:=st;exact⟨⟨l,k e (by simp) _ he⟩,f.at λo q=>k it (by simp) o q⟩
 item:=by
  intro X hP hw hK hc i O s σ H E I hf st hg;subst hP hw hK;obtain⟨xs,x,hq,hx⟩:=hg;obtain⟨U,rv,pl,hz⟩:=I.list hq;have p:=pl.isList;obtain⟨u,hu,ru⟩:=rv.get hx;have hi :=(aw.mp hu).1;have aq:a≠it:=λz=>by
   obtain⟨⟨oi,aj,ci,_⟩⟩:=(⟨st.2⟩:Nonempty _)
   obtain⟨oa,B,ca,_⟩:=p;rw[z,aj]at B;cases B;rw[ci]at ca;exact absurd ca (by decide)
  have ak:e∉[it,a]:=λz=>by
   rcases ap.mp z with z | z
   .exact av z
   .have z:=al.mp z;obtain⟨⟨l,he⟩,_⟩:=st;obtain⟨oa,B,ca,_⟩:=p;rw[<-z,he]at B;cases B;exact absurd (show Value.type "enumerate"=Value.type "list" from ca) (by decide)
  have W:=WalksT.enumerateD (Draws.list (prog:=X.prog) (w:=X.w) (A:=X.A.in1) (by have:=I.ok.hd hc;simp[this]) it a aq U.toArray) e av ak (by simp);refine W.item i s _ _ (by simpa using hi) ⟨st.1,st.2,p⟩ λT aZ h1 tk hp hT tup mid k1=>?_;obtain⟨tt,y,Y,rfl⟩:=hp;have Y:y=u:=by
   rw[iq,hu]at Y;exact(br Y).symm
  subst Y;have J:=W.apart i T h1 mid;refine⟨_,rfl,W.go M kk pp i T { s with heap:=h1,toks:=tk } _ _ mid λh2 f k2=>?_⟩;have hn:H T=none:=I.hok.fresh hT;have az:h2.IsTuple T #[.int i tt,y]:=tup.at λo q=>k2 T o J q;have I2:Inv X O σ (upd H T (.tup [.int i,x])) { s with heap:=h2,toks:=tk }:=I.turnsNew (ch:=[e,it]) (o := .tup [.int i,x]) hf (λb o L q=>k2 b o L (k1 b o L q)) hT ⟨by show 2<=aI;decide,[.int i tt,y],.cons ⟨tt,rfl⟩ (.cons ru .nil),Xb.pair az⟩;refine⟨.ref T,_,I2,rfl,⟨T,x,rfl,hn,rfl,λys Y=>by rw[I.list_inj Y hq];exact hx⟩,⟨f.1,f.2.1⟩,λb L=>?_⟩;have aJ:b≠T:=λz=>J (z▸L);rw[Qh aJ];exact(hf b L).1
 done:=by
  intro X hP hw hK hc i O s σ H E I hf st hg;subst hP hw hK;obtain⟨xs,hq,hx⟩:=hg;obtain⟨U,rv,pl,hz⟩:=I.list hq;have p:=pl.isList;have bv:=rv.length;obtain⟨⟨l,he⟩,f⟩:=st;have D:Draws X.prog X.w X.A.in1 it [it,a] i (λ_ _=>True) (λj h=>j=i/\h.IsListIter it a i/\h.IsList a U.toArray) :=
   {live:=λ_ _ q=>let ⟨_,⟨o,ho,_⟩,_⟩:=q;⟨o,ho⟩
    frame:=λ_ _ _ q k=>⟨q.1,q.2.1.at λo z=>k it (by simp) o z,q.2.2.at λo z=>k a (by simp) o z⟩
    item:=λj s Q E hj q _=>absurd q.1 (aL hj)
    done:=λs Q E q fin=>wpAny_nextOf_list_end (by have:=I.ok.hd hc;simp[this]) q.2.1 q.2.2 (by simp;lia) fin }
  exact l0 D he ⟨rfl,f,p⟩ λh1 k=>⟨rfl,I.turns hf λb o L q=>k b o (λz=>L (by simp[z])) q⟩
 self:=λA i s Q E st h=>hZ st.1.choose_spec h
section
def pi_enumL(O:Gl X "enumerate")(hm:X.mg "enumerate"=none)(T:PA X [a] U)(Y:ah [a] X.env=[(false,eval a X.env)]:=by rfl) :
  PI X (.Tuple M kk pp) (.Call (.Name "enumerate" p) [a] [] J) (λL H R=>U L H λvs B=>∃l,vs=[.ref l]/\(∃xs,SqL X.K B l xs)/\R (Ite λH xs=>SqL X.K H l xs) B):=by
 intro f s L H R I h;refine Call_ (Qbt I O hm (show cI "enumerate"=some (.type "enumerate") from by kernel_rfl) (cX (thn (T J f s L H _ I h) λus s1 zz=>?_) Y rfl));obtain⟨vs,B,D,r1,q1⟩:=zz;obtain⟨l,rfl,⟨xs,hq⟩,q⟩:=q1;obtain⟨u,rfl,ru⟩:=Yq r1;cases ru;obtain⟨av,rv,pl,hz⟩:=D.list hq;refine call_enumerate_list pl.isList λh' he E _ k=>?_;refine hZ he ?_;refine⟨s1.heap.objs.size+1,[s1.heap.objs.size+1,s1.heap.objs.size],_,_,B,rfl,D.kept k,QiZ l s1.heap.objs.size (s1.heap.objs.size+1) (me _),⟨⟨_,he⟩,E⟩,λb hb=>?_,q⟩;have j:s1.heap.objs.size<=b:=by
  rcases ap.mp hb with z | z
  .rw[z];exact dy _
  .rw[al.mp z];exact aB _
 exact D.fpOk j (D.hok.fresh j)
def im_enumL(hc:X.calm=true)(O:Gl X "enumerate")(hm:X.mg "enumerate"=none)(U:AM X ms [a] Y)(hs:ah [a] X.env=[(false,eval a X.env)]:=by rfl) :
  IM X ms (.Tuple D kk pp) (.Call (.Name "enumerate" p) [a] [] av) (Qc Qdi Y) :=
 PI.imp (pi_enumL O hm U hs) λσ H R zz=>by
  obtain⟨F,γ,xs,k1,k2,k3,w⟩:=zz;obtain⟨qs,e1,k3⟩:=Qb k3;refine⟨F,γ,qs,k1,k2,e1,λvs H1 F1 E j=>?_⟩;delta Qdi at k3;split at k3
  .cases k3;obtain⟨v,t,rfl,j,qt⟩:=j;subst qt;obtain⟨l,us,rfl,f,B⟩:=j;refine⟨l,rfl,⟨us,E.sub.seq f⟩,w _ _ _ E ?_⟩;refine⟨λi I J e2=>?_,λi I v H3 J e2 y=>?_,λI e2=>?_⟩
   .have hv:i<us.length:=by
     rw[B.length];simpa using J
    exact⟨us,us[i],e2.seq f,by simp[hv]⟩
   .obtain⟨T,x,rfl,L,rfl,y⟩:=y;obtain⟨p,e3,e4⟩:=B.back (y us (e2.seq f));refine⟨.tup [pN i,p],?_,λF2 x1 M=>?_⟩
    .simp[e3]
    .refine⟨upd F2 T (.tup [.int i,x]),.laid M L,?_⟩;exact⟨T,[.int i,x],rfl,.of Qf,.cons (Qp _) (.cons (e4.mono (x1.trans (Grow.laid M L).ext)) .nil)⟩
   .exact⟨us,e2.seq f,by rw[B.length];simp⟩
  .cases k3
end
section
def op_repS:OpR X (bV .Mult) (λx y H Q=>∃l k xs,x = .ref l/\y = .int k/\SqL X.K H l xs /\ -(2^63)<=k/\k<2^63/\xs.length*k.toNat<=2^24/\∀p,H p=none->Q (.ref p) (upd H p (.lst (bS k.toNat xs).flatten))):=by
 intro j s M H x y v u Q I E J h;obtain⟨l,k,xs,rfl,rfl,L,h1,h2,hz,q⟩:=h;cases E;obtain⟨t,rfl⟩:=J;obtain⟨f,r,⟨⟨cls,dd,data,B⟩,n,e,c,_,d⟩,_⟩:=I.list L;subst c d;have D:f.toArray.size*k.toNat<=2^24:=by rw[aQ,<-r.length];exact hz
 refine wpAny_binaryOp_repeat_ref (by decide) ⟨_,e,rfl⟩ (λs'=>typeIs_int s' k t) noFill_list_mul PySem.F.fills_int_mul kz repeat_list PySem.F.slot_int_index.lookup
  (fE kz (typeIs_int s k t) PySem.F.entry_int_rmul (PySem.F.args_int_rmul_2 _ _) (lm_int_rmul_list_any k t l f.toArray n dd B)
   ⟨e,rfl,⟨_,e,rfl⟩,fE PySem.F.slot_list_mul ⟨_,e,rfl⟩ PySem.F.entry_list_mul (PySem.F.args_list_mul_2 _ _)
    (lm_list_mul_any l f.toArray n dd B k t (by simp[g9];lia) (by lia) (by simp[cW,aI];omega))
    ⟨e,?_⟩⟩)
 rw[listMul_foldl_if];have O:2^24<=aI:=by decide
 exact⟨.ref _,_,I.lnew (r.rep k.toNat) (by rw[len_rep,Nat.mul_comm];lia),rfl,q _ I.fresh⟩
theorem RepL.rep{K:aa}(h:RepL K F ps vs):∀k ,RepL K F (bS k ps).flatten (bS k vs).flatten
 |0=>.nil
 |k+1=>by
  exact h.append (RepL.rep h k)
set_option tactic.hygienic true in
def oo_rep:OpO X (bV .Mult) pRep:=by
 intro f s D H x y v u Q I E J h;obtain⟨F,p,q,r,h1,h2,L,l,w⟩:=h;cases p<;>cases q<;>first
  | (exfalso;cases l;done)
  |skip
 rename_i xs k;obtain⟨c,rfl⟩:=Qi l;obtain⟨a,vs,rfl,sa,B⟩:=h2;subst L;refine op_repS f s D H _ _ v u Q I E J ⟨a,k,vs,rfl,rfl,h1.seq sa,by lia,by lia,?_,λp j=>?_⟩
 .rw[B.length];have:k.toNat<=1000:=by lia
  exact aS (Nat.mul_le_mul c.2.2 this) (by decide)
 .have M :=h1.free j;exact w p _ _ F (.side h1 j) j M Qf (RepL.rep B k.toNat)
end
section
def em_globI(f:Gl X x)(hm:X.mg x=some (.int i t))(hd:(x=="__debug__")=false:=by decide):EM X [] (.Name x l) (mC (.int i)) :=
 PE.imp (QdR (v := .int i) f hm ⟨t,rfl⟩ hd) λD H Q j=>by
  obtain⟨F,E,r,h1,h2,B,w⟩:=j;cases B;exact w.here h1 (by rfl)
def GT(K:aa)(a:Addr)(l:List Str):Prop:=∃o f n,K.lookup a=some o/\o.cls = .type "tuple"/\o.dict=none/\o.data = .seq f n/\f.size<=aI/\Vals (l.map V.str) f.toList
def em_globT(l:Gl X x)(hm:X.mg x=some (.ref a))(B:GT X.K a f)(hd:(x=="__debug__")=false:=by decide):EM X [] (.Name x D) (mC (.tup (f.map .str))) :=
 PE.imp (QdR (v := .ref a) l hm rfl hd) λI H Q j=>by
  obtain⟨F,J,r,h1,h2,E,w⟩:=j;cases E;refine w.here h1 ?_;exact⟨a,f.map V.str,rfl,.inr B,Yz f⟩
end
section
def Qmf:OpR X (bI .LtE) (λx y H Q=>∃i j,x = .str i/\y = .str j/\Q (.bl (sLe i j)) H):=by
 intro f s D H x y v u Q I l B h;obtain⟨i,j,rfl,rfl,q⟩:=h;obtain⟨t,rfl⟩:=l;obtain⟨t',rfl⟩:=B;exact P.le_str (Qdk I q rfl)
def pLeS:PV->PV->Option PV
 |.str a,.str b=>some (.bl (sLe a b))
 |_,_=>none
def om_leS:OpM X (bI .LtE) pLeS:=by
 intro f s l H x y v u Q I B D h;obtain⟨F,p,q,r,h1,h2,E,j,w⟩:=h;cases p<;>cases q<;>first
  | (exfalso;cases j;done)
  |skip
 cases j;exact Qmf f s l H x y v u Q I B D ⟨_,_,h2,E,w.here h1 (QB _)⟩
end
def Its(x:Str):It:=⟨λi _=>i<x.cps.size,λi H v f=>f=H/\∃c,x.cps[i]?=some c/\v = .str ⟨#[c]⟩,λi _=>x.cps.size<=i⟩
def turn_str{K:aa} x t it:Turn P w K tg (Its x) [it] it (λi h=>h.IsStrIter it "str_ascii_iterator" x t i) where
 mem:=by simp
 obj:=λi h st b f=>by
  have e :=by simpa using f
  subst e;obtain⟨o,e,c,d⟩:=st;exact⟨o,e,λv z=>by rw[d]at z;cases z⟩
 keep:=λi h T st k=>by
  obtain⟨o,e,c,d⟩:=st;exact⟨o,k it (by simp) o e,c,d⟩
 item:=by
  intro X U hw hK hc i j s Y H E I hf st D;have B :=D;obtain⟨f0,J,f2,L,M,O⟩:=hf it (by simp);refine wpAny_pyNext_ascii_item st (aM B) λT l sb=>?_;have I1 :=I.turned (t':=s.toks+1) (λb o f e=>(sb.2 b f).trans e) f0 J L M O;obtain⟨o,e,c,d⟩:=id l;exact⟨_,rfl,QhE e c d (by decide) ⟨.str ⟨#[x.cps[i]]⟩,H,I1,⟨_,rfl⟩,⟨rfl,_,aM B,rfl⟩,l,λb f=>(hf b f).1⟩⟩
 done:=by
  intro X U hw hK hc i j s Y H E I hf st D;have B :=D;obtain⟨f0,J,f2,L,M,O⟩:=hf it (by simp);exact wpAny_pyNext_ascii_end (I.ok.hd hc) st (b9 B) λT eb=>⟨rfl,I.turned (λb o f e=>eb b o f e) f0 J L M O⟩
 self:=λ_ _ _ _ _ st h=>wpAny_pyIter_striter_ascii st h
section
def pi_str(hl:PE X l tl):PI X O l (λB H R=>tl B H λv D=>∃x,v = .str x/\x.cps.all (· < 128)=true/\R (Its x) D):=by
 intro f s B H R I h;refine thn (hl f s B H _ I h) λv s1 E=>?_;obtain⟨y,D,j,J,L⟩:=E;obtain⟨x,e,M,q⟩:=L;subst e;obtain⟨t,rfl⟩:=J;refine wpAny_pyIter_ascii M ?_;refine⟨s1.heap.objs.size,[s1.heap.objs.size],_,_,D,rfl,j.kept λb o e=>af _ e,turn_str x t _,⟨_,ay _ rfl,rfl,rfl⟩,λb T=>?_,q⟩;have e:b=s1.heap.objs.size:=by grind
 subst e;exact j.fpOk (aB _) (j.hok.fresh (aB _))
def Xs(x:Str):List PV:=x.cps.toList.map λc=>.str ⟨#[c]⟩
def itX:PV->Option (List PV)
 |.str x=>if x.cps.all (· < 128)=true then some (Xs x) else none
 |_=>none
def iStr(m:MEx):PEnv->Option (List PV):=λf=>(m f).bind itX
def im_str(h:EM X ms e m):IM X ms L e (iStr m):=PI.imp (pi_str h) λM H R j=>by
 obtain⟨F,l,xs,h1,h2,B,w⟩:=j;obtain⟨p,e1,e2⟩:=Qb B;refine⟨F,l,p,h1,h2,e1,λv D O g q=>?_⟩;cases p with
 |str x =>
  obtain⟨E,rfl⟩:=Qi e2;subst q;refine⟨x,rfl,E,w _ _ _ g ?_⟩;have hl:(Xs x).length=x.cps.size:=by simp[Xs]
  refine⟨λi H f e=>?_,λi H v D f e y=>?_,λH e=>?_⟩
  .rw[hl]at f;exact f
  .obtain⟨rfl,c,hc,rfl⟩:=y;refine⟨.str ⟨#[c]⟩,?_,λI T J=>⟨I,.refl J,Qap _⟩⟩;delta Xs;rw[aT,di,hc];rfl
  .rw[hl];exact aB _
 |_=>cases e2
end
end L2.PM
namespace L2.PM
open PySem PySem.Spec PyProof.Rows PySem.Builtin PySem.Builtin.Str
section
def QlT(f:(y.length==0)=false)(h:∀l k,l.map (·.1)=cC x y->l.length<=aI->Q (.ref s.heap.objs.size) { s with heap:=s.heap.push { cls := .type "list",data := .seq (strValues l).toArray },toks:=k })(B:x.length+2<=aI):aE (model prog w) A (call (.builtin "str.split") [.str x t,.str y u]) Q E s:=by
 have j:(partsBetween x (occurrences x y 0 x.length (x.length+1)) y.length).length<=aI:=by
  have e1:=StrLaws.occ_length_le x y 0 x.length (x.length+1);rw[length_partsBetween];lia
 cases h1:(decide (x.length<y.length)||decide (strKind x<strKind y))
 .cases hf:(occurrences x y 0 x.length (x.length+1)).isEmpty
  .refine fE F.slot_str_split (iB _ _ _) F.entry_str_split (F.args_str_split_2 _ _) (meets_str_split_sep x y t u h1 f hf (by lia) j) ?_;rw[strsFrom_eq];refine h (numbered s.toks _) _ ((numbered_texts _ _).trans ((aK (iC h1)).trans (aK (iC hf))).symm) ?_;have:=congrArg ee (numbered_texts s.toks (partsBetween x (occurrences x y 0 x.length (x.length+1)) y.length));rw[ai]at this;rw[this];exact j
  .exact fE F.slot_str_split (iB _ _ _) F.entry_str_split (F.args_str_split_2 _ _) (meets_str_split_not_found x y t u h1 f hf)
    (h [(x,t)] s.toks ((aK (iC h1)).trans (au hf)).symm (by show 1<=aI;decide))
 .exact fE F.slot_str_split (iB _ _ _) F.entry_str_split (F.args_str_split_2 _ _) (meets_str_split_cannot_occur x y t u h1)
   (h [(x,t)] s.toks (au h1).symm (by show 1<=aI;decide))
end
section
def YJ:PV->List PV->Option (List PV)
 |.str x,[.str y]=>if (y.length==0)=false/\x.length+2<=LIM then some ((cC x y).map .str) else none
 |_,_=>none
theorem Qds:∀l ,Vals ((l.map (·.1)).map V.str) (strValues l)
 |[]=>.nil
 |p::l=>.cons ⟨p.2,rfl⟩ (Qds l)
def mm_split:MtR X "str.split" (rMtO X.K YJ):=by
 intro D s Y H x xs v us Q I J rs h;obtain⟨F,p,ps,r,h1,h2,j,f,w⟩:=h;delta YJ at f;split at f
 .obtain⟨⟨L,M⟩,rfl⟩:=Qi f;subst h2;obtain⟨t,rfl⟩:=J;obtain⟨v1,r1,rfl,j,O⟩:=j;subst O;subst j;obtain⟨u,rfl,T⟩:=Yq rs;obtain⟨t2,rfl⟩:=T;refine QlT L (λl k el hl=>?_) (aS M Qv);have B :=I.hok.fresh (aB _);have U :=h1.free B;have E:=Qds l;rw[el]at E;exact⟨.ref _,_,I.lnew E (by rw[ai,<-el,ai];exact hl),rfl,w _ _ _ F (.side h1 B) B U Qf (Yz _)⟩
 .cases f
def eo_split(h:EM X ms o m)(M:AM X ns (e::I) O)(B:bW o "split" X.env (eval o X.env)=eval o X.env:=by rfl)(J:((bx f (ah (e::I) X.env)).all (λx => !x.1)&&(dI f (ce [] X.env)).all (λx=>x.1.isSome)
   && decide ((e::I).length+([]:List d4).length+(if ([]:List d4).isEmpty then 0 else 1)<30))=true:=by rfl)(D:(L.endLine==f.line)=true:=by rfl)(T:ah (e::I) X.env=(false,eval e X.env)::ah I X.env:=by rfl)(l:(bx f (ah I X.env)).any (·.1)=false:=by rfl) :
  EO X (ms++ns) (.Call (.Attribute o "split" L) (e::I) [] f) (mMt "str" YJ m O) :=
 eo_mt h M (QfX fq PySem.F.slot_str_split PySem.F.type_str_split mm_split h M B J D T l)
end
end L2.PM
namespace L2.PM
open PySem PySem.Spec PyProof.Rows
section
def QkH:V->List V->Hp->VK->Prop:=λx vs H Q=>∃l xs y i,x = .ref l/\vs=[.int i,y]/\H l=some (.lst xs)/\0<=i/\i<=xs.length/\xs.length<aI/\xs.length<=100000/\Q .non (upd H l (.lst (xs.take i.toNat++y::xs.drop i.toNat)))
def Qmi:MtM X "list.insert" QkH:=by
 intro D s O H x vs v us Q I J f h;obtain⟨l,xs,y,i,rfl,rfl,E,h0,T,hz,hz2,q⟩:=h;cases J;cases f with
 |cons L f =>
  cases f with
  |cons M f =>
   cases f;obtain⟨t,rfl⟩:=L;obtain⟨z,j,n,r,hl,e⟩:=I.lstM E;have B:¬(!Builtin.List.listFitsIndex i)=true:=by
    have:g9 i=true:=by
     delta g9;simp;lia
    simp[this]
   refine fE jX ⟨_,e,rfl⟩ PySem.F.entry_list_insert (PySem.F.args_list_insert_3 _ _ _) (PySem.AutoListH.list_insert_list_int_val_1 l j.toArray n i t _ B (by rw[aQ];lia)) ⟨e,?_⟩;refine⟨.non,_,I.lset E e ?_ ((r.take _).append (.cons M (r.drop _))) ?_,rfl,q⟩
   .have h1:¬i<0:=by lia
    simp only[h1, aQ];have h2:min i.toNat j.length=i.toNat:=by lia
    rw[h2];apply fK.mp;simp;exact c7 (by rw[dr];exact aB _)
   .rw[aO,aG,dO,dr];lia
def insK(ms:List Nat)(i:Nat)(f:PEnv)(xs:List PV)(r:PV):PV->Option Out
 |.int j=>if 0<=j/\j<=xs.length/\xs.length<=1000/\(flat r || !ms.contains i)=true then some (.nx ((Qx (flat r) ms f).set i (.ow (xs.take j.toNat++r::xs.drop j.toNat)))) else none
 |_=>none
def sIns(ms:List Nat)(i:Nat)(mk m:MEx):MSt:=λf=>match f[i]? with
 |some (.ow xs)=>(mk f).bind λj=>(m f).bind λr=>insK ms i f xs r j
 |_=>none
end
section
def QeS:PV->List PV->Option PV
 | .str x,[.tup xs]=>match strs? xs with
  |some ys=>if (ys.map (·.length)).sum+ys.length*x.length<=LIM then some (.str (a5 x ys)) else none
  |none=>none
 |_,_=>none
set_option tactic.hygienic true in
def mm_joinT:MtR X "str.join" (rMt X.K QeS):=by
 intro B s O H x xs v us Q I D rs h;obtain⟨F,p,ps,r,h1,h2,j,f,w⟩:=h;delta QeS at f;split at f
 .split at f
  .rename_i ys l;obtain⟨c,rfl⟩:=Qi f;subst h2;obtain⟨t,rfl⟩:=D;obtain⟨T,U,rfl,j,E⟩:=j;subst E;obtain⟨a,ws,rfl,k2,k3⟩:=j;obtain⟨u,rfl,J⟩:=Yq rs;cases J;have e2:=XB l;subst e2;have e3:=YS k3;subst e3;obtain⟨L,M,pt,_⟩:=I.tuple (h1.seqT k2);refine join_tuple pt (by simpa using Yy M) (by grind) λt' k=>⟨.str _,H,I.tok _,⟨_,rfl⟩,w.here h1 (Qap _)⟩
  .cases f
 .cases f
def em_joinT(h:EM X ms o m)(M:AM X ns (e::I) O)(B:bW o "join" X.env (eval o X.env)=eval o X.env:=by rfl)(J:((bx f (ah (e::I) X.env)).all (λx => !x.1)&&(dI f (ce [] X.env)).all (λx=>x.1.isSome)
   && decide ((e::I).length+([]:List d4).length+(if ([]:List d4).isEmpty then 0 else 1)<30))=true:=by rfl)(D:(L.endLine==f.line)=true:=by rfl)(T:ah (e::I) X.env=(false,eval e X.env)::ah I X.env:=by rfl)(l:(bx f (ah I X.env)).any (·.1)=false:=by rfl) :
  EM X (ms++ns) (.Call (.Attribute o "join" L) (e::I) [] f) (mMt "str" QeS m O) :=
 em_mt h M (QfX fq kx kw mm_joinT h M B J D T l)
end
end L2.PM
namespace L2.PM
open PySem
def rngD(f lo:Int):List PV:=(ao (f-lo).toNat).map λk=>.int (f-(k:Nat))
def rg3K:PV->PV->PV->Option (List PV)
 |.int i,.int j,.int k=>if k = -1/\rOk i=true/\rOk j=true then some (rngD i j) else none
 |_,_,_=>none
def iRg3(l B D:MEx):PEnv->Option (List PV):=λf=>(l f).bind λp=>(B f).bind λq=>(D f).bind λr=>rg3K p q r
def exlK(ms:List Nat)(i:Nat)(f:PEnv):PV->Option mQ->Option Out
 |.lst ys,some (.ow xs)=>if xs.length+ys.length<LIM/\(!ms.contains i)=true then some (.nx ((Qx (flat (.lst ys)) ms f).set i (.ow (xs++ys)))) else none
 |_,_=>none
def sExl(ms:List Nat)(i:Nat)(m:MEx):MSt:=λf=>(m f).bind λr=>exlK ms i f r f[i]?
def Qca:List PV->Option PV
 | [.tup xs]=>match strs? xs with
  |some ss=>if ss.length<1000 then some (.int (once ss).length) else none
  |none=>none
 |_=>none
end L2.PM
namespace L2.PM
open PySem PySem.Spec PyProof.Rows
def Itd(f:Int)(n:Nat):It:=⟨λi _=>i<n,λi H x j=>j=H/\x = .int (f-i),λi _=>n<=i⟩
def QlM{K:aa} it l n:Turn P w K tg (Itd l n) [it] it (λi h=>IsRangeIter h it (l+i*(-1)) (n-i) (-1)) where
 mem:=al.mpr rfl
 obj:=λi h st b j=>by
  obtain rfl:=al.mp j;exact⟨_,st,λv z=>nomatch (z)⟩
 keep:=λi h D st k=>k it (al.mpr rfl) _ st
 item:=by
  intro X hP hw hK hc i f s σ H E I hf st L;obtain⟨M,O,y2,T,U,Y⟩:=hf it (al.mpr rfl);refine(Walks.range (I.ok.hd hc) it l (-1) n).item i s _ _ L st λv D tk hv B kk=>?_;obtain⟨t,rfl⟩:=hv;have J:Inv X f σ H { s with heap:=D,toks:=tk }:=I.turned (λb o j e=>kk b o (λz=>j (al.mp z)) e) M O T U Y;refine⟨_,rfl,QhE B rfl rfl (by decide) ⟨.int (l-i),H,J,⟨t,?_⟩,⟨rfl,rfl⟩,B,λb j=>(hf b j).1⟩⟩;rw[show l+i*(-1)=l-i by lia]
 done:=by
  intro X hP hw hK hc i f s σ H E I hf st L;obtain⟨M,O,y2,T,U,Y⟩:=hf it (al.mpr rfl);exact lZ (I.ok.hd hc) st (by have z:n<=i:=L;lia) λD eb=>⟨rfl,I.turned (λb o j e=>eb b o j e) M O T U Y⟩
 self:=λ_ _ _ _ _ st h=>l6 st h
def small_dn(B : -(2^62)<=a)(f:a<2^62)(D : -(2^62)<=b)(l:b<2^62):je.Range.small a b (-1)=true/\eG a b (-1)=((a-b).toNat):=by
 have e:eG a b (-1)=if a>b then a-b else 0:=by
  delta eG;simp only[  show(-(-1))=1 from rfl];split<;>lia
 refine⟨?_,by rw[e];split<;>lia⟩;delta je.Range.small;rw[e];simp only[je.Range.rangeFitsLong,aN,dR,decide_eq_true_eq, show ¬((-1)>0) by decide,iu];split<;>lia
section
def pi_down(U:Gl X "range")(hm:X.mg "range"=none)(Y:PA X [a,b,c] ta)(hs:ah [a,b,c] X.env=[(false,eval a X.env),(false,eval b X.env),(false,eval c X.env)]:=by rfl)(B:ah [b,c] X.env=[(false,eval b X.env),(false,eval c X.env)]:=by rfl) :
  PI X tg (.Call (.Name "range" p) [a,b,c] [] O) (λL H R=>ta L H λvs M=>∃i j ,vs=[.int i,.int j,.int (-1)]/\(-(2^62)<=i/\i<2^62 /\ -(2^62)<=j/\j<2^62)/\R (Itd i (i-j).toNat) M):=by
 intro f s L H R I h;refine Call_ (Qbt I U hm boot_range (cX (thn (Y O f s L H _ I h) λus s1 zz=>?_) (by rw[hs,B]) (by rw[B];rfl)));obtain⟨vs,M,I1,r1,E⟩:=zz;obtain⟨i,j,rfl,⟨E,q2,q3,q4⟩,q⟩:=E;cases r1 with
 | cons r D=>cases D with
  | cons r' D=>cases D with
   |cons T D =>
    cases D;obtain⟨t,rfl⟩:=r;obtain⟨t',rfl⟩:=r';obtain⟨l,rfl⟩:=T;obtain⟨sm,sz⟩:=small_dn E q2 q3 q4;refine call_range_3 (by decide) ?_ (Or.inl (PyProof.noPylong_small (by decide)));refine wpAny_pyIter_range (IsRange.new ..) sm ?_;have J:Inv X f L M { s1 with heap:=s1.heap.push { cls := .type "range",data := .fields #[.int i t,.int j t',.int (-1) l] },toks:=s1.toks }:=I1.kept λb o e=>af _ e;refine⟨(s1.heap.push { cls := .type "range",data := .fields #[.int i t,.int j t',.int (-1) l] }).objs.size,[(s1.heap.push { cls := .type "range",data := .fields #[.int i t,.int j t',.int (-1) l] }).objs.size],_,_,M,rfl,
     J.kept λb o e=>af _ e,QlM _ i (i-j).toNat,?_,λb hb=>?_,q⟩
    .rw[show i+((0:Nat))*(-1)=i by simp,show(((i-j).toNat))-((0:Nat))=eG i j (-1) by rw[sz];simp];exact ay _ rfl
    .obtain rfl:=al.mp hb;exact J.fpOk (aB _) (J.hok.fresh (aB _))
def itd_rep{K:aa} f lo:ItRep K (Itd f (f-lo).toNat) F (rngD f lo):=by
 have hl:(rngD f lo).length=(f-lo).toNat:=by simp[rngD]
 refine⟨λi H h e=>?_,λi H x B h e y=>?_,λH e=>?_⟩
 .rw[hl]at h;exact h
 .obtain⟨rfl,rfl⟩:=y;rw[hl]at h;exact⟨.int (f-i),by simp[rngD,h],λj D l=>⟨j,.refl l,Qp _⟩⟩
 .rw[hl];exact aB _
def rg3_get{p q r:PV}(h:rg3K p q r=some xs):∃i j k,p = .int i/\q = .int j/\r = .int k/\(if k = -1/\rOk i=true/\rOk j=true then some (rngD i j) else none)=some xs:=by
 cases p with
 |int i =>
  cases q with
  |int j =>
   cases r with
   |int k=>exact⟨i,j,k,rfl,rfl,rfl,h⟩
   |_=>cases h
  |_=>cases h
 |_=>cases h
def imr_range3(O:Gl X "range")(hm:X.mg "range"=none)(T:AM X ms [a,b,c] (Qa U (Qa Y (Qa m3 aNil))))(hs:ah [a,b,c] X.env=[(false,eval a X.env),(false,eval b X.env),(false,eval c X.env)]:=by rfl)(B:ah [b,c] X.env=[(false,eval b X.env),(false,eval c X.env)]:=by rfl) :
  IMR X ms tg (.Call (.Name "range" p) [a,b,c] [] av) (iRg3 U Y m3) :=
 PI.imp (pi_down O hm T hs B) λσ H R zz=>by
  obtain⟨F,γ,xs,h1,h2,D,w⟩:=zz;obtain⟨p,e1,h4⟩:=Qb D;obtain⟨p',E,h5⟩:=Qb h4;obtain⟨I,f,h6⟩:=Qb h5;refine⟨F,γ,[p,p',I],h1,h2,by simp[Qa,aNil,e1,E,f],λvs H' F' g q=>?_⟩;obtain⟨v,t,rfl,q,l⟩:=q;obtain⟨v',t',rfl,q',l⟩:=l;obtain⟨az,aq,rfl,J,l⟩:=l;subst l;obtain⟨i,j,k,rfl,rfl,rfl,D⟩:=rg3_get h6;obtain⟨⟨ek,L,M⟩,rfl⟩:=Qi D;subst ek;subst q q' J;exact⟨i,j,rfl,⟨(Qbm L).1,(Qbm L).2,(Qbm M).1,(Qbm M).2⟩,w _ _ g.same λF=>itd_rep i j⟩
def rExtL(K:aa):V->List V->Hp->VK->Prop:=λx vs H Q=>∃l b xs f,x = .ref l/\vs=[.ref b]/\H l=some (.lst xs)/\SqL K H b f/\xs.length+f.length<=aI/\Q .non (upd H l (.lst (xs++f)))
end
open PySem.AutoSeq1 (wpAny_loadPart')
def Qml l us n b ws f I (hc:f.cls = .type "list") (hd:f.data = .seq ws I)
  (J:¬(!us.isEmpty&&cW (us.size+ws.size))=true) (B:us.size<=aI) (D:us.size+ws.size<=aI+1) :
  Meets (je.«list.extend» ⟨[.ref l,.ref b],[]⟩) (λ_ R s=>s.heap.get? l=some { cls := .type "list",dict:=none,data := .seq us n,slots := #[] }/\s.heap.get? b=some f/\R (.ok (.ret de)) { s with heap:=s.heap.update l (cm λx=>x++ws),toks:=s.toks }) :=
 .of_wp λprog w A R s h=>by
  obtain⟨H,L,data2,j⟩:=f;subst hc hd;obtain⟨M,g,d,tk,os⟩:=s;obtain⟨hl,E,h⟩:=h;have O:=jm;have T:=jn;have hz:(us++ws).size<=aI+1:=by rw[jd];exact D
  wp_walk using (iJ hl rfl (hz:=B) (_hz':=hz)),cn hl,cn E;exact⟨_,rfl,h⟩
section
def mt_exl:MtM X "list.extend" (rExtL X.K):=by
 intro E s σ H x vs v us Q I M O h;obtain⟨l,b,xs,zs,rfl,rfl,J,T,hz,q⟩:=h;cases M;obtain⟨u,rfl,U⟩:=O.one;cases U;obtain⟨z,j,n,r,hl,e⟩:=I.lstM J;obtain⟨f,L,pt,z2⟩:=I.list T;obtain⟨Y,e2,hc,n2,hd⟩:=pt.isList;have av:=L.length;have D:j.toArray.size+f.toArray.size<=aI:=by grind
 have B:¬(!j.toArray.isEmpty&&cW (j.toArray.size+f.toArray.size))=true:=by
  rw[Qis D,jN];grind
 refine fE F.slot_list_extend ⟨_,e,rfl⟩ F.entry_list_extend (F.args_list_extend_2 _ _)
  (Qml l j.toArray n b f.toArray Y n2 hc hd B (by grind) (by lia)) ⟨e,e2,?_⟩
 refine⟨.non,_,I.lset J e (by simp) (r.append L) ?_,rfl,q⟩;grind
end
structure FunD (K:aa) (x qual:Str) (st:Stmt) (f:Addr) (fd:d9) (j:Int):Prop where
 ex:∃(T:Addr)(oc:Value)(od:Option Addr)(kV doc pm:Value)(an:Option Addr)(cdv ct:Value)(osl:Array (Option Value)),
  fd=cD x qual (Qt st) (Qj st) (Qe st) (.ref T) kV doc pm an cdv ct/\K.lookup f=some ⟨oc,od,.func fd,osl⟩/\eM K cdv qual=true /\
  ∃(tc:Value)(td:Option Addr)(tk:Tok)(tn:Nat)(ts:Array (Option Value)),K.lookup T=some ⟨tc,td,.seq #[.int j tk] tn,ts⟩
 kp:bX K (.ref f)=true
def Qli{K:aa}{st:Stmt}{kV doc D B ct:Value}(l:K.lookup f=some ⟨J,L,.func (cD x qual (Qt st) (Qj st) (Qe st) (.ref T) kV doc D an B ct),I⟩)(c:eM K B qual=true)(k:bX K (.ref f)=true)(t:K.lookup T=some ⟨tc,M,.seq #[.int j tk] O,U⟩):FunD K x qual st f (cD x qual (Qt st) (Qj st) (Qe st) (.ref T) kV doc D an B ct) j :=
 ⟨⟨T,J,L,kV,doc,D,an,B,ct,I,rfl,l,c,tc,M,tk,O,U,t⟩,k⟩
section
def FunD.ok{P:aY}{K:aa}{st:Stmt}(F:FunD K x qual st f fd j)(S:FnScope N ps (Qe st))(len:∀vs H Q E,sp vs H Q E->vs.length=ps.length)(B:∀l A outer s H vs Q E,Room k (A.deeper (cM qual (Qe st) s.heap.objs.size f l))->sp vs H Q E ->
   ∃t,PSs (cxOf CX0 P w K mg base N qual (Qe st) f l A outer s H E).nox (Qj st) t/\t { nx:=λ_ J=>Q .non J,rt:=Q } (YN N vs) H):FnOk P w K mg base CX0 (k+1) f fd ps sp:=by
 obtain⟨T,M,O,kV,doc,U,an,l,ct,L,rfl,lk,D,_⟩:=F.ex;refine Qnx lk D S len λA outer s H vs Q E hr I=>?_;obtain⟨t,h,q⟩:=B l A outer s H vs Q E hr I;exact⟨t,h.nox,q⟩
def fnMD{P:aY}{K:aa}{st:Stmt}(O:FunD K x qual st f fd j)(T:FnScope N ps (Qe st))(U:ps.length=n)(B:∀l A outer s H E,Room k (A.deeper (cM qual (Qe st) s.heap.objs.size f l)) ->
   SMs (cxOf CX0 P w K mg base N qual (Qe st) f l A outer s H E).nox (Qj st) m):FnOk P w K mg base CX0 (k+1) f fd ps (spM K n (runV N.length n m)):=by
 refine O.ok T (λvs H Q E h=>by rw[h.1,U]) λl A outer s H vs Q E hr h=>?_;refine⟨_,B l A outer s H E hr,?_⟩;obtain⟨hl,F,qs,r,h1,h2,J,L⟩:=h;delta runV at J;have Y:qs.length=n:=by rw[<-h2.length];exact hl
 rw[au Y]at J;obtain⟨o,e1,e2⟩:=Qb J;refine⟨H,F,F,_,o,QaI h1 h2,e1,?_⟩;cases o with
 |nx M=>cases e2;exact λav D I S=>L .non D I S.gr Qgw
 |rt p=>cases e2;exact λv D I g q=>L v D I g q
 |ro xs=>cases e2;exact λa vs D I g n nF hH q=>L.of_lst a vs D I g n nF hH q
 |_=>cases e2
def FunD.binds{K:aa}{x qual:Str}{st:Stmt}{f:Addr}{fd:d9}{j:Int}{ps:List Str}(F:FunD K x qual st f fd j)(h:∀(dV kV doc B:Value) (an:Option Addr) (l ct d:Value) (us:List Value),us.length=ps.length->∃k:Option (Array Value)->Sem (List (Str×Value)),fM (cD x qual (Qt st) (Qj st) (Qe st) dV kV doc B an l ct) ⟨us,[]⟩=seqItems? dV >>= k/\k (some #[d])=pure (ps.zip us)):Zp K fd ps []:=by
 obtain⟨T,H,I,kV,doc,B,an,l,ct,D,rfl,lk,E,tc,J,tk,L,M,t⟩:=F.ex;intro s us X hl;rw[bu]at hl |-;obtain⟨k,e1,e2⟩:=h (.ref T) kV doc B an l ct (.int j tk) us hl;exact jj rfl (X _ _ t) rfl e1 e2
def FunD.bindsD{K:aa}{st:Stmt}(F:FunD K x qual st f fd j)(h:∀dV kV doc B an l ct d us,us.length+1=ps.length->∃k ,fM (cD x qual (Qt st) (Qj st) (Qe st) dV kV doc B an l ct) ⟨us,[]⟩=seqItems? dV >>= k/\k (some #[d])=pure (ps.zip (us++[d]))) :
  ∃tk ,Zp K fd ps [.int j tk]:=by
 obtain⟨T,H,I,kV,doc,B,an,l,ct,D,rfl,lk,E,tc,J,tk,L,M,t⟩:=F.ex;refine⟨tk,λs us X hl=>?_⟩;obtain⟨k,e1,e2⟩:=h (.ref T) kV doc B an l ct (.int j tk) us (by simpa using hl);exact jj rfl (X _ _ t) rfl e1 e2
end
def CalD(P:aY)(w:cf)(K:aa)(mg:Str->Option Value)(base:Heap)(k:Nat)(x:Str)(n:Nat)(j:Int)(g:List PV->Option PV):Prop :=
 ∃f fd ps,FnOk P w K mg base CX0 k f fd ps (spM K n g)/\mg x=some (.ref f)/\bX K (.ref f)=true/\Zp K fd ps []/\∃tk ,Zp K fd ps [.int j tk]
def CalD.cal{K:aa}(c:CalD P w K mg base k x n j g):Cal P w K mg base k x n g:=by
 obtain⟨f,fd,ps,h1,h2,l,B,_⟩:=c;exact⟨f,fd,ps,h1,h2,l,B⟩
section
def em_calD(c:CalD X.prog X.w X.K X.mg X.base k x n j g)(L:∀ps r,g ps=some r->ps.length=n)(hr:Room k X.A)(M:Gl X x)(O:AM X ms [e] (Qa m aNil))(l:(x=="__debug__")=false:=by decide)(he:ah [e] X.env=(false,eval e X.env)::ah [] X.env:=by rfl)(B:(bx D (ah [] X.env)).any (·.1)=false:=by rfl) :
  EM X ms (.Call (.Name x p) [e] [] D) (Qc g (Qa m (Qa (mC (.int j)) aNil))):=by
 obtain⟨f,fd,ps,F,hm,T,_,tk,U⟩:=c;refine PE.imp (Qgy (dvs:=[.int j]) F hr M hm T U (.cons ⟨tk,rfl⟩ .nil) Qhs O l he B) λσ H Q h=>?_;obtain⟨F,Y,r,k1,k2,k3,w⟩:=h;obtain⟨xs,e1,k3⟩:=Qb k3;obtain⟨q,e0,e1⟩:=Qb e1;cases e1;refine⟨F,Y,[q],k1,k2,by simp[Qa,aNil,e0],λvs H1 E I q1=>?_⟩;have J:RepL X.K E [q,.int j] (vs++[.int j]):=q1.append (.cons (Qp _) .nil);exact⟨by rw[J.length];exact L _ _ k3,E,_,r,I.sub,J,k3,w.go I⟩
end
abbrev hz1(h:Heap)(a:Addr):Heap:=h.push { cls := .type "tuple_iterator",data := .fields #[.ref a,.int 0 0] }
abbrev hz2(h:Heap)(a c:Addr):Heap:=(hz1 h a).push { cls := .type "list_iterator",data := .fields #[.ref c,.int 0 0] }
section
def Ym(prog:aY)(w:cf)(L:Bool)(h:Heap)(a:Addr)(M:List Str):Prop :=
 ∃o f j t,h.get? a=some o/\o.ExactSet/\o.data = .set f j t/\kC (strKind prog w) f.toList/\(∀k,k∈M↔∃e∈f.toList,(strKind prog w).is k e.2=true) /\
  f.size<eZ/\t.fits f.size=true/\f.size=M.length/\M.Nodup/\Kept L t
def Ym.at(x:Ym prog w L h a M)(e:∀o,h.get? a=some o->f.get? a=some o):Ym prog w L f a M:=by
 obtain⟨o,j,l,t,ho,r⟩:=x;exact⟨o,j,l,t,e o ho,r⟩
def Yl(M:List Str)(k:Str):List Str:=if k∈M then M else M++[k]
def Xm(h:M.Nodup) k:(Yl M k).Nodup:=by
 delta Yl;split
 .exact h
 .rename_i j;rw[gB];exact⟨h,by simp,λa l b f=>by
   rw[al]at f;subst f;exact λe=>j (e▸l)⟩
def QdQ{h:Heap}(ho:h.get? a=some o)(hd:o.data = .set B l t) f t' :
  (h.update a (Obj.putSet f t')).get? a=some { o with data := .set f (l+1) t' }:=by
 have e:=putSet_of f t' hd;have z:=dC (Obj.putSet f t') ho (by rw[e];rfl);rw[e]at z;exact z
def QbL{l f:List (Int×Value)}(B:(strKind prog w).is k v=true)(hm:∀k,k∈M↔∃e∈l,(strKind prog w).is k e.2=true)(D:k∉M)(p:f.Perm (l++[((strKind prog w).hash k,v)])) j :
  j∈Yl M k↔∃e∈f,(strKind prog w).is j e.2=true:=by
 delta Yl;rw[aK D,aP,al];constructor
 .rintro(z | rfl)
  .obtain⟨e,he,q⟩:=(hm j).mp z;exact⟨e,p.mem_iff.mpr (cy _ he),q⟩
  .exact⟨_,p.mem_iff.mpr (aV _ (List.mem_singleton_self _)),B⟩
 .rintro⟨e,he,q⟩;rcases aP.mp (p.mem_iff.mp he) with z | z
  .exact .inl ((hm j).mpr ⟨e,z,q⟩)
  .rw[al.mp z]at q;exact .inr ((strKind prog w).inj v j k q B)
def add_LS{L:Bool}{a:Addr}{M:List Str}{k:Str}{tk:Tok}{Q:Bool->aC->Prop}(hS:Ym prog w L s.heap a M)(room:M.length+1<eZ)(fin:∀b B,bR a s.heap B->Ym prog w L B a (Yl M k)->Q b { s with heap:=B }):aE (model prog w) A (setAddHashed a (.str k tk) ((strKind prog w).hash k)) Q E s:=by
 obtain⟨o,J,ep,t,ho,hex,hd,D,hm,hb,hf,hn,O,az⟩:=hS;have hk:(strKind prog w).is k (.str k tk)=true:=kG _ _ _ _;have T:(Value.str k tk).scannable=true:=rfl;have tail:∀(g:Bool->Sem Unit),(∀(b:Bool)(l:aC)(R:Unit->aC->Prop),R () l->aE (model prog w) A (g b) R E l)->∀(f:Array (Int×Value))(tB:d5)(wd:Bool)(R:Option Bool->aC->Prop),
   kC (strKind prog w) f.toList->(∀j,j∈Yl M k↔∃e∈f.toList,(strKind prog w).is j e.2=true)->f.size<eZ->tB.fits f.size=true->f.size=(Yl M k).length->Kept L tB ->
   (∀B,bR a s.heap B->Ym prog w L B a (Yl M k)->R (some true) { s with heap:=B }) ->
   aE (model prog w) A (do
    storeSet a f tB
    if (!wd&&tB.tooFull)=true then do
      g (jD tB f (dS f.size)).2.2
      storeSet a (jD tB f (dS f.size)).1 (jD tB f (dS f.size)).2.1
      pure (some true)
     else pure (some true)) R E s:=by
  intro g hg f tB wd R h1 h2 h3 h4 h5 h6 hR;have U:=QdQ ho hd f tB;refine ac (hV ho hd ?_ (eQ h3));have aq:=dn s.heap a (Obj.putSet f tB);split
  .have p:=relayAll_perm tB f (dS f.size);have ff:=relayAll_fits tB f (dS f.size);have kk:=Qjq h6 f (dS f.size);generalize jD tB f (dS f.size)=rl at p ff kk |-;obtain⟨Y,t3,aj⟩:=rl;have sz:Y.size=f.size:=by
    have:=p.length_eq;simpa using this
   refine ac (hg _ _ _ (ac (hV U rfl ?_ (eQ (by rw[sz];exact h3)))));have aJ:=QdQ U rfl Y t3;refine ag (hR _ (aq.trans (dn _ a _)) ⟨_,Y,_,t3,aJ,hex,rfl,h1.perm p,λj=>(h2 j).trans ⟨λ⟨e,he,q⟩=>⟨e,p.mem_iff.mpr he,q⟩,λ⟨e,he,q⟩=>⟨e,p.mem_iff.mp he,q⟩⟩,by rw[sz];exact h3,ff,by rw[sz];exact h5,Xm O k,kk⟩)
  .exact ag (hR _ aq ⟨_,f,_,tB,U,hex,rfl,h1,h2,h3,h4,h5,Xm O k,h6⟩)
 refine cr (ac (bh ho hd hf ?_));dsimp only;rw[byScan_of T hb D,au rfl];refine ac (ac (fX (ac (wpAny_setScan_of hk ho hd hf D ?_))));cases hr:List.findIdx? (λe=>(strKind prog w).is k e.2) J.toList with
 |some j =>
  obtain⟨hj,pj,_⟩:=iW.mp hr;have H :=(hm k).mpr ⟨_,bi hj,pj⟩;refine ag (ag ?_);have z:=fin false s.heap (d8 a s.heap) (by
   delta Yl;rw[au H];exact⟨o,J,ep,t,ho,hex,hd,D,hm,hb,hf,hn,O,az⟩)
  exact z
 |none =>
  have H:k∉M:=λz=>by
   obtain⟨e,he,q⟩:=(hm k).mp z;rw[jR.mp hr e he]at q;cases q
  have gw:∀(b:Bool)(l:aC)(R:Unit->aC->Prop),R () l->aE (model prog w) A (match b with | true=>rule "set.scan.the-table-gave-way" | false=>pure ()) R E l:=λb l R hq=>by
   cases b
   .exact ag hq
   .exact fX hq
  have I:=layNew_perm t J ((strKind prog w).hash k) (.str k tk);have fi:=layNew_fits t J ((strKind prog w).hash k) (.str k tk);have kp:=QhB az J ((strKind prog w).hash k) (.str k tk);generalize layNew t J ((strKind prog w).hash k) (.str k tk)=ly at I fi kp |-;obtain⟨f,t1,wd,aj⟩:=ly;dsimp only at I fi kp |-;rw[lY]at I;have sz:f.size=J.size+1:=by
   have:=I.length_eq;simpa using this
  have ak:f.size=(Yl M k).length:=by
   delta Yl;rw[aK H,sz,hn];simp
  refine ac (gw _ _ _ ?_);have done:∀B,bR a s.heap B->Ym prog w L B a (Yl M k)->aE (model prog w) A (match some true with | some av=>pure av | none=>setAddHashedIn a (.str k tk) ((strKind prog w).hash k) 99999) Q E { s with heap:=B }:=λB sb z=>ag (fin true B sb z);split
  .refine ac ?_;refine ag (tail _ gw f _ wd _ ((D.push hk T).perm I) (QbL hk hm H I) (by lia) ?_ ak ?_ done)
   .split
    .exact fi
    .exact d5.fits_plain_off fi
   .split
    .exact kp
    .exact Qjr kp _
  .refine ac (ag ?_);exact tail _ gw f _ wd _ ((D.push hk T).perm I) (QbL hk hm H I) (by lia) fi ak kp done
end
def QbE(val:Nat->Str)(i:Nat):List Str:=((ao i).map val).foldl Yl []
def Qdt val i:QbE val (i+1)=Yl (QbE val i) (val i):=by
 delta QbE;rw[ig,bF,lU];rfl
def Qfz M k:(Yl M k).length<=M.length+1:=by
 grind[Yl]
theorem Qfm val:∀i,(QbE val i).length<=i
 |0=>aB _
 |i+1=>by
  rw[Qdt];have:=Qfz (QbE val i) (val i);have:=Qfm val i;lia
section
theorem QhV{R:kP->aC->Prop}{I:Addr}{T wr:List Addr}{G:Array GenState->Array GenState->Prop}{n:Nat}{P:Nat->Value->Prop}{St:Nat->aC->Prop}{L:Bool}(W:WalksS prog w A.in1 I T wr G n P St) D (f:D∉T) val (l:∀i v,P i v->∃t,v = .str (val i) t) (B:n+1<eZ) :
  ∀k i s,n-i=k->i<=n->St i s->Ym prog w L s.heap D (QbE val i) ->
   (∀s',Moved (D::wr) G s s'->Ym prog w L s'.heap D (QbE val n)->R (.ok (.ret .none)) s')->fC (model prog w) A (.builtin "set.update.loop" ⟨[.ref D,.ref I],[]⟩) R s
 |0,i,s,U,Y,st,E,fin=>by
  obtain rfl:i=n:=by omega
  have H:D∉wr:=λz=>f (W.sub _ z);refine cY iE ?_;refine ac (W.done s _ _ st λs' mv=>?_);exact ag (fin s' (mv.mono λb j=>ax _ j) (E.at λo e=>mv.heap D o H e))
 |k+1,i,s,U,Y,st,E,fin=>by
  have H:D∉wr:=λz=>f (W.sub _ z);refine cY iE ?_;refine ac (W.item i s _ _ (by omega) st λv s' hp J mv=>?_);obtain⟨t,rfl⟩:=l i v hp;refine ac (cr ?_);refine cr (ac ((strKind prog w).pyHash (kG _ _ _ _) ?_));have sl:=Qfm val i;refine add_LS (s:={ s' with toks:=s'.toks+1 }) (E.at λo e=>mv.heap D o H e) (by omega) λb h' sb z=>?_;rw[<-Qdt]at z;refine ag ⟨gc PyProof.Rows.F.plain_set_update_loop _,QhV W D f val l B k (i+1) _ (by omega) (by omega) (W.frame _ s' _ _ J (dy _) λb j o e=>?_) z λM O z2=>?_⟩
  .exact(sb.2 b λq=>f (q▸j)).trans e
  .refine fin M (Moved.trans W.gtrans ((mv.mono λb j=>ax _ j).then_heap (dy _) λb o j e=>?_) O) z2;exact(sb.2 b λq=>j (q▸bB)).trans e
def QfZ:List Value->List Str->Prop
 |[],[]=>True
 |v::vs,x::xs=>(∃t,v = .str x t)/\QfZ vs xs
 |_,_=>False
theorem QfZ.str_at:∀{vs:List Value}{xs:List Str},QfZ vs xs->∀i (v:Value),vs[i]?=some v->∃t,v = .str (xs.getD i "") t
 |[],_,_,i,v,e=>by simp at e
 |w::vs,[],h,_,_,_=>h.elim
 |w::vs,x::xs,h,0,v,e=>by
  simp at e;subst e;exact h.1
 |w::vs,x::xs,h,i+1,v,e=>by
  have:=QfZ.str_at h.2 i v (by simpa using e);simpa using this
def fresh_LS(e:h.get? a=some { cls := .type "set",dict:=none,data := .set #[] 0 (.fresh 0 0 (!byT w)) }):Ym prog w (!byT w) h a [] :=
 ⟨_,#[],0,_,e,⟨rfl,rfl,rfl⟩,rfl,λe he=>by simp at he,λk=>by simp,by decide,by rfl,rfl,.nil,rfl,by delta Up;simp[d5.fresh]⟩
set_option maxHeartbeats 3200000 in
def QfO{l:Addr}{f:Array Value}{ns:List Str}{Q:Value->aC->Prop}(calm:A.handled=none)(hi:QfZ f.toList ns)(hb:f.size+1<eZ)(fin:∀(D:Heap) (tk:Nat),Ym prog w (!byT w) D s.heap.objs.size (QbE (λi=>ns.getD i "") f.size)->(∀b o,b<s.heap.objs.size->s.heap.get? b=some o->D.get? b=some o)->Q (.ref s.heap.objs.size) { s with heap:=D,toks:=tk }) :
  (s.heap.IsTuple l f->aE (model prog w) A (call (.type "set") [.ref l]) Q E s)/\(s.heap.IsList l f->aE (model prog w) A (call (.type "set") [.ref l]) Q E s):=by
 constructor<;>intro hl<;>(
  obtain⟨c,tl,bZ⟩:=PySem.F.called_set.mro;have aJ:=PySem.F.called_set.made;have cv:=PySem.F.called_set.sub;refine kE (codeAny_of_tree ?_);show aE _ _ (callAny (.type "set") _) _ _ _;refine ag ⟨jz _ (by decide+kernel),cY PySem.F.entry_type_call ?_⟩;rw[dm.under_plain (weight_type_call_type "set" [.ref l] []) rfl];have h1:=PySem.F.called_set.notType;have h2:=PySem.F.called_set.canCreate;have cj:=PySem.F.typeCall_set_1 (.ref l);repeat (any_goals (first | assumption | wp_step))
  refine fh (setNew (.ref l) (E:=E) (Q₁:=λobj I=>obj = .ref s.heap.objs.size/\I={ s with heap:=s.heap.push { cls := .type "set",dict:=none,data := .set #[] 0 (.fresh 0 0 (!byT w)) } }) ⟨rfl,rfl⟩) λr I hr=>?_;cases r with
  |error e=>exact hr
  |ok fl =>
   cases fl with
   |ret obj =>
    obtain⟨rfl,rfl⟩:=hr;have O:(s.heap.push { cls := .type "set",dict:=none,data := .set #[] 0 (.fresh 0 0 (!byT w)) }).get? s.heap.objs.size=some { cls := .type "set",dict:=none,data := .set #[] 0 (.fresh 0 0 (!byT w)) }:=ay _ rfl;have hT:lv { s with heap:=s.heap.push { cls := .type "set",dict:=none,data := .set #[] 0 (.fresh 0 0 (!byT w)) } } (.ref s.heap.objs.size) "set":=⟨_,O,rfl⟩
    have ck:=PySem.F.called_set.init.lookup;have cJ:=PySem.F.called_set.init.bind (.ref s.heap.objs.size);repeat (any_goals (first | assumption | wp_step))
    refine fh (i0 (R:=wants (λr J=>r = .none/\∃D tk,J={ s with heap:=D,toks:=tk }/\Ym prog w (!byT w) D s.heap.objs.size (QbE (λi=>ns.getD i "") f.size) /\
      (∀b o,b<s.heap.objs.size->s.heap.get? b=some o->D.get? b=some o)) E) PySem.F.called_set.init.plain PySem.F.entry_set_init (check_set_init_1 hT ?_)) λT J j=>?_
    .have H:=hl.push { cls := .type "set",dict:=none,data := .set #[] 0 (.fresh 0 0 (!byT w)) };obtain⟨ol,U,Y,nl,av⟩:=hl;obtain⟨cz,aZ,bv,ak⟩:=ol;simp only at Y av;subst Y;subst av;have cq:(s.heap.push { cls := .type "set",dict:=none,data := .set #[] 0 (.fresh 0 0 (!byT w)) }).get? l=_:=af _ U;have:=PySem.F.sub_tuple_set;have:=PySem.F.sub_tuple_frozenset;have:(Value.type "tuple"==Value.type "dict")=false:=by decide
     have:=PySem.F.sub_list_set;have:=PySem.F.sub_list_frozenset;have:(Value.type "list"==Value.type "dict")=false:=by decide
     delta je.«set.__init__» noKeywords je.Frozenset.updateFrom;generalize bz:l8=PI
     wp_walk
     subst bz
     (first | refine fD H (ac (gN ?_)) | refine hX H (ac (gN ?_)))
     have az:l<s.heap.objs.size:=aD U;have B:A.in1.in1.in1.handled=none:=by simp[calm]
     have aq:l≠(s.heap.push { cls := .type "set",dict:=none,data := .set #[] 0 (.fresh 0 0 (!byT w)) }).objs.size:=by
      rw[bH];exact aL (cp az)
     have bq:s.heap.objs.size∉[(s.heap.push { cls := .type "set",dict:=none,data := .set #[] 0 (.fresh 0 0 (!byT w)) }).objs.size,l]:=by
      rw[bH];intro z;rcases ap.mp z with z | z
      .exact absurd z (aL (cU _))
      .rw[al]at z;exact absurd z (f8 az)
     have aj:∀(i:Nat)(v:Value),f[i]?=some v->∃t,v = .str ((λi=>ns.getD i "") i) t:=λi v hv=>QfZ.str_at hi i v (by rw[di];exact hv)
     (first | have W:=(λ_:Heap.IsTuple _ _ _=>(Walks.tuple (prog:=prog) (w:=w) B _ l aq f).toS) H | have W:=(Walks.list (prog:=prog) (w:=w) B _ l aq f).toS)
     refine QhV (L := !byT w) W s.heap.objs.size bq (λi=>ns.getD i "") aj hb (f.size-0) 0 _ (by omega) (cG _) ⟨⟨_,ay _ rfl,rfl,rfl⟩,H.push _⟩ ?YN ?fin;case YN=>exact fresh_LS (af _ O)
     case fin =>
      intro s' hm z;obtain⟨D,g',d',bj,bJ⟩:=s';obtain rfl:g'=s.gens:=hm.gens;obtain rfl:d'=s.drawn:=hm.drawn;obtain rfl:bJ=s.os:=hm.os;show aE _ _ _ _ _ _;refine ag ?_;show aE _ _ (ret de) _ _ _;refine ag ⟨rfl,D,bj,rfl,z,λb o hb e=>?_⟩;refine hm.heap b o (λq=>?_) (af _ (af _ e));rw[bH]at q;rcases ap.mp q with q | q
      .exact absurd q (aL hb)
      .rw[al]at q;exact absurd q (aL (cp hb))
    .cases T with
     |error e=>exact j
     |ok M =>
      cases M with
      |ret r =>
       obtain⟨rfl,D,tk,rfl,z,k⟩:=j;repeat (any_goals (first | assumption | wp_step))
       exact fin _ _ z k
      |_=>exact j.elim
   |_=>exact hr.elim)
end
def QfA:x∈Yl M k↔x∈M\/x=k:=by
 delta Yl;split
 .rename_i h;exact⟨.inl,λq=>q.elim id λe=>e▸h⟩
 .simp
theorem QdE:∀(l M:List Str),M.Nodup->(l.foldl Yl M).Nodup/\∀x,x∈l.foldl Yl M↔x∈M\/x∈l
 |[],M,h=>⟨h,λx=>by simp⟩
 |y::l,M,h=>by
  obtain⟨a,b⟩:=QdE l (Yl M y) (Xm h y);refine⟨a,λx=>?_⟩;rw[ij,b x,QfA,ap];exact⟨λq=>q.elim (λq=>q.elim .inl λe=>.inr (.inl e)) λq=>.inr (.inr q),λq=>q.elim (λq=>.inl (.inl q)) λq=>q.elim (λe=>.inl (.inr e)) .inr⟩
theorem Qby:∀{xs:List Str},y∈once xs↔y∈xs
 |[]=>by simp[once]
 |x::xs=>by
  unfold once;rw[ap,ap,bc,Qby];by_cases h:y=x<;>simp[h]
theorem QbK:∀xs:List Str,(once xs).Nodup
 |[]=>by simp[once]
 |x::xs=>by
  unfold once;rw[bO];exact⟨by simp[bc],fR _ (QbK xs)⟩
def Qdu ns:(QbE (λi=>ns.getD i "") ns.length).Perm (once ns):=by
 have e:(ao ns.length).map (λi=>ns.getD i "")=ns:=by
  apply eH;intro i;rw[aT];by_cases h:i<ns.length
  .simp[h]
  .rw[bp (by rw[am];omega),bp (by omega)];rfl
 delta QbE;rw[e];obtain⟨a,b⟩:=QdE ns [] .nil;exact(gu a (QbK ns)).mpr λx=>by rw[b x,Qby];simp
section
def Zx(X:Cx)(p:Addr)(M:List Str):HO := .ext λh=>Ym X.prog X.w (!byT X.w) h p M
theorem Qeb:∀{xs:List Str}{us:List Value},Vals (xs.map V.str) us->QfZ us xs
 |[],_,.nil=>trivial
 |x::xs,_,.cons ⟨t,h⟩ r=>⟨⟨t,h⟩,Qeb r⟩
def QjG(hc:X.calm=true):YQ X (.type "set") (λvs H Q=>∃(l:Addr)(ns:List Str),vs=[.ref l]/\SqT X.K H l (ns.map V.str)/\ns.length<1000/\∀p M,H p=none->M.Perm (once ns)->Q (.ref p) (upd H p (Zx X p M))):=by
 intro B s O H vs us Q I rs h;obtain⟨l,ns,rfl,hl,T,q⟩:=h;obtain⟨u,rfl,E⟩:=Yq rs;cases E;obtain⟨j,D,J,_⟩:=I.tuple hl;have f:=D.length;rw[ai]at f;refine(QfO (I.ok.hd hc) (by simpa using Qeb D) (by simp only[aQ];show j.length+1<4096;omega) λU tk z k=>?_).1 J;have e:j.toArray.size=ns.length:=by simp only[aQ];exact f.symm
 rw[e]at z;refine⟨.ref s.heap.objs.size,upd H s.heap.objs.size (Zx X s.heap.objs.size _),I.laid (t':=tk) (λb o q=>k b o (aD q) q) (aB _) ⟨z,?_,λh1 h2 L k1=>L.at k1⟩,rfl,q _ _ I.fresh (Qdu ns)⟩;obtain⟨o,_,_,_,ho,_⟩:=z;exact⟨o,ho⟩
def Qbg:YQ X (.builtin "len") (λvs H Q=>∃(D:Addr)(M:List Str),vs=[.ref D]/\H D=some (Zx X D M)/\Q (.int M.length) H):=by
 intro f s U H vs us Q I rs h;obtain⟨D,M,rfl,j,q⟩:=h;obtain⟨u,rfl,l⟩:=Yq rs;cases l;obtain⟨z,_,_⟩:=I.hok D _ j;obtain⟨o,B,Y,t,ho,hex,hd,E,hm,J,hf,L,O,T⟩:=z;refine call_len_set ho hex hd hf (by have:B.size<4096:=J;lia) ⟨.int M.length,H,I.tok _,⟨_,by rw[L]⟩,q⟩
theorem ZO{K:aa}:∀{xs:List PV}{ns:List Str}{vs:List V},strs? xs=some ns->RepL K F xs vs->vs=ns.map V.str
 |[],ns,vs,h,r=>by
  subst r;cases h;rfl
 |x::xs,ns,vs,h,r=>by
  obtain⟨v,t,rfl,j,l⟩:=r;cases x with
  |str y =>
   unfold strs? at h;cases f:strs? xs with
   |none=>rw[f]at h;cases h
   |some ss =>
    rw[f]at h;cases h;subst j;rw[ZO f l];rfl
  |_=>cases h
set_option tactic.hygienic true in
def em_lenSetT(hc:X.calm=true)(hg:Gl X "set")(hm:X.mg "set"=none)(J:Gl X "len")(L:X.mg "len"=none)(ha:AM X ms [a] ma)(hs:ah [a] X.env=(false,eval a X.env)::ah [] X.env:=by rfl)(O:(bx f (ah [] X.env)).any (·.1)=false:=by rfl)(B:ah [.Call (.Name "set" p1) [a] [] f] X.env=(false,eval (.Call (.Name "set" p1) [a] [] f) X.env)::ah [] X.env:=by rfl)(D:(bx I (ah [] X.env)).any (·.1)=false:=by rfl) :
  EM X ms (.Call (.Name "len" p2) [.Call (.Name "set" p1) [a] [] f] [] I) (Qc Qca ma) :=
 PE.imp (YF Qbg J L PySem.boot_len (ZK (ZS (QjG hc) hg hm (by kernel_rfl) ha (by decide) (by decide) hs O) Qav B) (by decide) (by decide) B D) λσ H Q zz=>by
  obtain⟨F,γ,r,k1,k2,k3,w⟩:=zz;obtain⟨qs,e1,k3⟩:=Qb k3;refine⟨F,γ,qs,k1,k2,e1,λvs Y j E T=>?_⟩;delta Qca at k3;split at k3
  .obtain⟨v,t,rfl,T,qt⟩:=T;subst qt;obtain⟨l,us,rfl,sl,rl⟩:=T;split at k3
   .rename_i ns U;obtain⟨c1,rfl⟩:=Qi k3;have e2:=ZO U rl;subst e2;refine⟨l,ns,rfl,E.sub.seqT sl,c1,λp M hp hM=>?_⟩;refine⟨p,M,rfl,Qf,?_⟩;have g2:Grow j Y j (upd Y p (Zx X p M)) := .side E.sub hp;rw[hM.length_eq];exact w _ _ j (E.trans g2) (Qp _)
   .cases k3
  .cases k3
end
section
def em_gI(f:Gl X x)(hm:∃t,X.mg x=some (.int i t))(hd:(x=="__debug__")=false:=by decide):EM X [] (.Name x l) (mC (.int i)):=by
 obtain⟨t,h⟩:=hm;exact em_globI f h hd
def em_gT(f:Gl X x)(hm:∃a,X.mg x=some (.ref a)/\GT X.K a l)(hd:(x=="__debug__")=false:=by decide):EM X [] (.Name x B) (mC (.tup (l.map .str))):=by
 obtain⟨a,h1,h2⟩:=hm;exact em_globT f h1 h2 hd
end
def orH(B E:Hp):Hp:=λb=>match B b with
 |some o=>some o
 |none=>E b
def QfY:Same B (orH B E):=λb o h=>by delta orH;rw[h]
def Qbj(n:B b=none)(h:E b=some o):orH B E b=some o:=by grind[orH]
def YG(h:orH B E b=none):B b=none/\E b=none:=by
 grind[orH]
def QgV(h1:B b=none)(h2:E b=none):orH B E b=none:=by grind[orH]
def Qck(h:orH B E b=some o):B b=some o\/(B b=none/\E b=some o):=by
 grind[orH]
def Zo(f:PEnv)(j:Nat):Option Addr:=match f[j]? with
 |some (.fz (.opq a))=>some a
 |_=>none
def XH(h:Zo f j=some a):f[j]?=some (.fz (.opq a)):=by
 grind[Zo]
section
structure SX (K:aa) (P:Hp->Hp->Addr->τ->Prop) (j:Nat) (B F₀ F E:Hp) (a:Addr) (σ:St) (H:Hp) (γ:PEnv) (t:τ):Prop where
 sr:SR K (orH B E) F₀ F σ H γ
 at_:Zo γ j=some a
 own:P F E a t
 db:∀b o,E b=some o->B b=none
 df:∀b o,E b=some o->F b=none
inductive OutX (τ:Type) where
 |nx (γ:PEnv) (t:τ) | rt (p:PV) | ro (xs:List PV) | bk (γ:PEnv) (t:τ) | ct (γ:PEnv) (t:τ)
abbrev MX f:=PEnv->f->Option (OutX f)
def OutXOk(K:aa)(P:Hp->Hp->Addr->J->Prop)(j:Nat)(B f:Hp)(a:Addr)(D:Ends):OutX J->Prop
 |.nx I t=>∀l H F E,SX K P j B f F E a l H I t->D.nx l H
 |.rt p=>∀v H F,Grow f B F H->Rep K F p v->D.rt v H
 |.ro xs=>∀c vs H F,Grow f B F H->B c=none->F c=none->H c=some (.lst vs)->RepL K F xs vs->D.rt (.ref c) H
 |.bk I t=>∀l H F E,SX K P j B f F E a l H I t->D.bk l H
 |.ct I t=>∀l H F E,SX K P j B f F E a l H I t->D.ct l H
def tMX(K:aa)(P:Hp->Hp->Addr->I->Prop)(j:Nat)(m:MX I):TS:=λD J H=>∃B f F E a l t o,SX K P j B f F E a J H l t/\m l t=some o/\OutXOk K P j B f a D o
def XM(X:Cx)(P:Hp->Hp->Addr->f->Prop)(j:Nat)(st:Stmt)(m:MX f):Prop:=PS X st (tMX X.K P j m)
def XMs(X:Cx)(P:Hp->Hp->Addr->f->Prop)(j:Nat)(sts:List Stmt)(m:MX f):Prop:=PSs X sts (tMX X.K P j m)
def QjU(P:Hp->Hp->Addr->l->Prop):Prop:=∀F f E a t,Same F f->P F E a t->P f E a t
def Grow.offE(g:Grow f (orH B E) F H):Grow f B F H:=⟨g.ext,g.sub,QfY.trans g.same,λb o e=>(g.new b o e).imp id λz=>(YG z).1⟩
def SX.next{K:aa}{P:Hp->Hp->Addr->T->Prop}{F:Hp}(S:SX K P j B f F E a U H L t)(mono:QjU P)(J:SR K (orH B E) f D I M l)(hj:Zo l j=Zo L j)(O:Same F D):SX K P j B f D E a I M l t:=by
 refine⟨J,hj.trans S.at_,mono _ _ _ _ _ O S.own,S.db,λb o e=>?_⟩;cases q:D b with
 |none=>rfl
 |some u =>
  rcases J.fb b u q with z | z
  .have:=S.sr.f0 b u z;rw[S.df b o e]at this;cases this
  .rw[Qbj (S.db b o e) e]at z;cases z
end
section
def QjN(j:Nat)(m:MSt):MX B:=λl t=>(m l).bind λo=>match o with
 |.nx f=>if Zo f j=Zo l j then some (.nx f t) else none
 |.rt p=>some (.rt p)
 |.ro xs=>some (.ro xs)
 |.bk f=>if Zo f j=Zo l j then some (.bk f t) else none
 |.ct f=>if Zo f j=Zo l j then some (.ct f t) else none
def Qmq{K:aa}{P:Hp->Hp->Addr->τ->Prop}(mono:QjU P)(h:tMX K P j (QjN j m) D O H):tMS K m D O H:=by
 obtain⟨B,M,F,E,a,T,t,o,S,e,ok⟩:=h;obtain⟨ob,e1,e⟩:=Qb e;refine⟨orH B E,F,F,T,ob,S.sr.up S.sr.f0 (Same.refl _),e1,?_⟩;cases ob with
 |nx L =>
  obtain⟨c,rfl⟩:=Qi e;exact λf l I J=>ok f l I E (S.next mono (J.down S.sr.f0 S.sr.fb) c J.f0)
 |bk L =>
  obtain⟨c,rfl⟩:=Qi e;exact λf l I J=>ok f l I E (S.next mono (J.down S.sr.f0 S.sr.fb) c J.f0)
 |ct L =>
  obtain⟨c,rfl⟩:=Qi e;exact λf l I J=>ok f l I E (S.next mono (J.down S.sr.f0 S.sr.fb) c J.f0)
 |rt p =>
  cases e;exact λv l I g r=>ok v l I (g.down S.sr.f0 S.sr.fb).offE r
 |ro xs =>
  cases e;exact λc vs l I g n U Y r=>ok c vs l I (g.down S.sr.f0 S.sr.fb).offE (YG n).1 U Y r
def xm_lift{X:Cx}{P:Hp->Hp->Addr->f->Prop}{st:Stmt}(mono:QjU P)(h:SM X st m):XM X P j st (QjN j m):=PS.imp h λD l H q=>Qmq mono q
noncomputable def xSeq(s1 s2:MX l):MX l:=λj t=>(s1 j t).bind λo=>match o with
 |.nx f t'=>s2 f t'
 |o=>some o
variable{X:Cx}{P:Hp->Hp->Addr->τ->Prop}{j:Nat}{st:Stmt}{sts:List Stmt} in theorem xs_cons (h:XM X P j st s1) (hr:XMs X P j sts s2):XMs X P j (st::sts) (xSeq s1 s2):=PSs.imp (pss_cons h hr) λD σ H zz=>by
 obtain⟨B,F₀,F,E,a,γ,t,o,S,e,ok⟩:=zz;obtain⟨o1,e1,e2⟩:=Qb e;refine⟨B,F₀,F,E,a,γ,t,o1,S,e1,?_⟩;cases o1 with
 |nx γ' t'=>exact λσ' H' F' E' S'=>⟨B,F₀,F',E',a,γ',t',o,S',e2,ok⟩
 |_=>cases e2;exact ok
def xs_one{X:Cx}{P:Hp->Hp->Addr->f->Prop}{st:Stmt}(h:XM X P j st s1):XMs X P j [st] s1:=Qgx h
end
def Xe{α:Type}[Decidable c]{a:Option α}{r:α}(h:(if c then a else none)=some r):c/\a=some r:=by
 by_cases z:c
 .rw[au z]at h;exact⟨z,h⟩
 .rw[aK z]at h;cases h
def QfV(K:aa)(E:Hp)(a:Addr):List (List PV)->List V->Prop
 |[],vs=>vs=[]
 |xs::r,vs=>∃h us t,vs = .ref h::t/\h≠a/\E h=some (.lst us)/\RepL K (λ_=>none) xs us/\QfV K E a r t
theorem QfV.length{K:aa}:∀{xss:List (List PV)}{vs:List V},QfV K E a xss vs->vs.length=xss.length
 |[],_,h=>by subst h;rfl
 |xs::r,_,h=>by
  obtain⟨h1,us,t,rfl,_,_,_,f⟩:=h;simp[QfV.length f]
theorem QfV.rep{K:aa}(hE:∀b o,E b=some o->F b=none):∀{xss:List (List PV)}{vs:List V},QfV K E a xss vs->RepL K (orH F E) (xss.map .lst) vs
 |[],_,h=>by subst h;exact .nil
 |ys::r,_,h=>by
  obtain⟨h1,ws,t,rfl,k2,k3,f,k5⟩:=h;refine .cons ?_ (QfV.rep hE k5);exact⟨h1,ws,rfl,.of (Qbj (hE _ _ k3) k3),f.mono λb o e=>by cases e⟩
section
theorem Qbz{K:aa}:∀{ks:List Str}{ps:List PV}{vs:List V}{p:PV},ks.length=vs.length->RepL K F ps vs->(ks.zip ps).lookup f=some p->∃v,(ks.zip vs).lookup f=some v/\Rep K F p v
 |[],_,_,_,_,_,h=>by simp at h
 |k::ks,[],_,_,_,_,h=>by simp at h
 |k::ks,q::ps,vs,p,hl,hr,h=>by
  obtain⟨v,t,rfl,h2,l⟩:=hr;simp only[fm,a6]at h |-;cases j:f==k with
  |true =>
   rw[j]at h;cases h;exact⟨v,rfl,h2⟩
  |false =>
   rw[j]at h;exact Qbz (by simpa using hl) l h
theorem Xn:∀{ks:List Str}{vs:List V},ks.contains f=false->(ks.zip vs).lookup f=none
 |[],_,_=>by simp
 |k::ks,[],_=>by simp
 |k::ks,v::vs,h=>by
  rw[iS,kZ]at h;simp only[fm,a6,h.1];exact Xn h.2
def fldK(C:Addr)(f:Str):PV->Option PV
 |.obj D ks ps=>if D=C then (ks.zip ps).lookup f else none
 |_=>none
def mFld(C:Addr)(f:Str)(m:MEx):MEx:=λj=>(m j).bind (fldK C f)
def em_fld(h:EM X ms o m)(hc:Cls X.K C)(B:XX X.K C f)(I:bW o f X.env (eval o X.env)=eval o X.env:=by rfl):EM X ms (.Attribute o f J) (mFld C f m) :=
 PE.imp (pe_fld h I) λσ H Q E=>by
  obtain⟨F,L,r,k1,k2,k3,w⟩:=E;obtain⟨q,e1,e2⟩:=Qb k3;refine⟨F,L,q,k1,k2,e1,λv H1 F1 j M=>?_⟩;cases q with
  |obj D ks ps =>
   have e2:(if D=C then (ks.zip ps).lookup f else none)=some r:=e2;have O:D=C:=by
    by_cases z:D=C
    .exact z
    .rw[aK z]at e2;cases e2
   subst O;rw[au rfl]at e2;obtain⟨a,T,vs,rfl,h2,h3,U,Y⟩:=M;obtain⟨v',l,rv⟩:=Qbz U Y e2;exact⟨a,D,T,_,v',rfl,j.sub _ _ h2,hc,B,l,w _ _ _ j rv⟩
  |_=>cases e2
def isC(C:Addr)(f:Str):PV->Bool
 |.obj D ks _=>(D==C) && !ks.contains f
 |_=>false
def Qhz(C:Addr)(f:Str)(g:List PV->Option PV)(m:MEx)(l:PEnv->Option (List PV)):MEx:=λj=>(m j).bind λq=>if isC C f q=true then (l j).bind λps=>g (q::ps) else none
def Qle(h:isC C f q=true):∃ks ps,q = .obj C ks ps/\ks.contains f=false:=by
 cases q with
 |obj D ks ps =>
  have h:((D==C) && !ks.contains f)=true:=h;rw[aN,bg]at h;obtain⟨rfl,h2⟩:=h;exact⟨ks,ps,rfl,by simpa using h2⟩
 |_=>cases h
end
structure GrowX (F E H F' E' H':Hp):Prop where
 ext:Same F F'
 sub:Same F' H'
 esub:Same E' H'
 same:∀b o,H b=some o->E b=none->H' b=some o
 new:∀b o,F' b=some o->F b=some o\/H b=none\/E b≠none
 enew:∀b o,E' b=some o->E b≠none\/H b=none
 dj:∀b o,E' b=some o->F' b=none
section
def spX(K:aa)(P:Hp->Hp->Addr->f->Prop)(n:Nat)(g:Addr->List PV->f->Option f):Sp:=λvs H Q _=>vs.length=n/\∃F E a t us qs t',vs = .ref a::us/\Same F H/\Same E H/\(∀b o,E b=some o->F b=none)/\P F E a t/\RepL K F qs us/\g a qs t=some t' /\
 ∀j l B,GrowX F E H l B j->P l B a t'->Q .non j
def outX:OutX f->Option f
 |.nx _ t=>some t
 |_=>none
def runX(N n:Nat)(m:MX f)(a:Addr)(qs:List PV)(t:f):Option f:=if qs.length+1=n then (m (QQ N (.opq a::qs)) t).bind outX else none
def minH(H E:Hp):Hp:=λb=>match E b with
 |none=>H b
 |some _=>none
def minH_l(h:minH H E b=some o):H b=some o/\E b=none:=by
 delta minH at h;cases q:E b with
 |none=>rw[q]at h;exact⟨h,rfl⟩
 |some u=>rw[q]at h;cases h
def QkV(h:H b=some o)(n:E b=none):minH H E b=some o:=by delta minH;rw[n];exact h
def QaZ(h:minH H E b=none):E b≠none\/H b=none:=by
 delta minH at h;cases q:E b with
 |none=>rw[q]at h;exact .inr h
 |some u=>exact .inl λz=>by cases z
def fnX{K:aa}{P:Hp->Hp->Addr->τ->Prop}{st:Stmt}(J:Fun K x qual st f fd)(L:FnScope N ps (Qe st))(M:ps.length=n)(B:∀l A outer s H E,Room k (A.deeper (cM qual (Qe st) s.heap.objs.size f l)) ->
   XMs (cxOf CX0 O w K mg base N qual (Qe st) f l A outer s H E).nox P 0 (Qj st) m):FnOk O w K mg base CX0 (k+1) f fd ps (spX K P n (runX N.length n m)):=by
 refine J.ok L (λvs H Q E h=>by rw[h.1,M]) λl A outer s H vs Q E hr h=>?_;refine⟨_,B l A outer s H E hr,?_⟩;obtain⟨hl,F,G,a,t,us,qs,t',rfl,h1,h2,U,Y,I,D,wv⟩:=h;delta runX at D;have hq:qs.length+1=n:=by rw[<-I.length];exact hl
 rw[au hq]at D;obtain⟨o,e1,e2⟩:=Qb D;have T:SR K H F F (YN N (.ref a::us)) H (QQ N.length (.opq a::qs)):=QaI h1 (.cons (by rfl) I);have j:∀b o,orH (minH H G) G b=some o->H b=some o:=λb o e=>by
  rcases Qck e with z|⟨_,z⟩
  .exact(minH_l z).1
  .exact h2 b o z
 refine⟨minH H G,F,F,G,a,_,t,o,⟨⟨T.sub,j,T.f0,λb o e=>.inl e,T.len,T.fz,λi xs e=>?_,T.dj⟩,?_,Y,λb o e=>?_,U⟩,e1,?_⟩
 .obtain⟨c,vs,k1,k2,k3,k4,k5⟩:=T.ow i xs e;rw[k5]at k2;cases k2
 .rfl
 .delta minH;rw[e]
 .cases o with
  |nx γ t2 =>
   cases e2;intro av H' F' E' S;refine wv H' F' E' ⟨S.sr.f0,S.sr.sub,λb o e=>S.sr.base b o (Qbj (S.db b o e) e),λb o e n=>S.sr.base b o (QfY b o (QkV e n)),λb o e=>?_,λb o e=>QaZ (S.db b o e),S.df⟩ S.own;rcases S.sr.fb b o e with z | z
   .exact .inl z
   .exact .inr ((QaZ (YG z).1).symm)
  |_=>cases e2
set_option tactic.hygienic true in
def frz1_fz{i j:Nat}(h:l[j]?=some (.fz p)):(PM.frz1 l i)[j]?=some (.fz p):=by
 delta PM.frz1;split
 .rename_i ys e;by_cases f:i=j
  .subst f;rw[h]at e;cases e
  .rw[aA f];exact h
 .exact h
theorem Qha:∀ms {f:PEnv} {j:Nat} {p:PV},f[j]?=some (.fz p)->(PM.frz ms f)[j]?=some (.fz p)
 |[],_,_,_,h=>h
 |i::ms,f,j,p,h=>Qha ms (frz1_fz h)
def HasM(P:Hp->Hp->Addr->l->Prop)(C:Addr)(m:Str)(f:l->Bool):Prop:=∀F E a t,f t=true->P F E a t->∃j fs,E a=some (.ins C j fs)/\fs.lookup m=none
def SX.called{K:aa}{P:Hp->Hp->Addr->τ->Prop}(T:SR K (orH B E) D U Y H' M)(J:Zo M j=some a)(f:∀b o,E b=some o->B b=none)(G:GrowX U E H' L I H2)(hp:P L I a t'):SX K P j B D L I a Y H2 M t':=by
 have e0:∀b o,B b=some o->E b=none:=λb o h=>by
  cases q:E b with
  |none=>rfl
  |some u=>rw[f b u q]at h;cases h
 refine⟨⟨G.sub,λb o e=>?_,T.f0.trans G.ext,λb o e=>?_,T.len,λi p e=>?_,λi ys e=>?_,T.dj⟩,J,hp,λb o e=>?_,G.dj⟩
 .rcases Qck e with z|⟨O,H⟩
  .exact G.same b o (T.base b o (QfY b o z)) (e0 b o z)
  .exact G.esub b o H
 .have l:I b=none:=by
   cases q:I b with
   |none=>rfl
   |some u=>rw[G.dj b u q]at e;cases e
  rcases G.new b o e with z | z | z
  .exact(T.fb b o z).imp id λy=>QgV (YG y).1 l
  .exact .inr (QgV (YG (T.base.free z)).1 l)
  .refine .inr (QgV ?_ l);cases q:E b with
   |none=>exact absurd q z
   |some u=>exact f b u q
 .obtain⟨v,k1,k2⟩:=T.fz i p e;exact⟨v,k1,k2.mono G.ext⟩
 .obtain⟨c,ts,k1,k2,k3,k4,k5⟩:=T.ow i ys e;obtain⟨O,H⟩:=YG k5;refine⟨c,ts,k1,G.same c _ k2 H,k3.mono G.ext,?_,QgV O ?_⟩
  .cases q:L c with
   |none=>rfl
   |some u =>
    rcases G.new c u q with y | y | y
    .rw[k4]at y;cases y
    .rw[k2]at y;cases y
    .exact absurd H y
  .cases q:I c with
   |none=>rfl
   |some u =>
    rcases G.enew c u q with y | y
    .exact absurd H y
    .rw[k2]at y;cases y
 .rcases G.enew b o e with z | z
  .cases q:E b with
   |none=>exact absurd q z
   |some u=>exact f b u q
  .exact(YG (T.base.free z)).1
def QjM(j:Nat)(ms:List Nat)(f:l->Bool)(g:Addr->List PV->l->Option l)(D:PEnv->Option (List PV)):MX l:=λB t=>(D B).bind λqs=>(Zo B j).bind λa=>if f t=true then (g a qs t).map λt'=>.nx (frz ms B) t' else none
def xm_meth{P:Hp->Hp->Addr->τ->Prop}{st:Stmt}(mono:QjU P)(U:HasM P C Y I)(hn:∀a qs t t',g a qs t=some t'->qs.length+1=n)(ps:PS X st (Qhg (tMeth C Y (spX X.K P n g) [] av (tVar j) (tMA X.K ms ma)))):XM X P j st (QjM j ms I g ma):=PS.imp ps λD σ H zz=>by
 obtain⟨B,J,F,E,a,L,t,o,S,e,ok⟩:=zz;obtain⟨qs,e1,e⟩:=Qb e;obtain⟨a',e2,e⟩:=Qb e;rw[S.at_]at e2;cases e2;obtain⟨hok,e⟩:=Xe e;obtain⟨t',e3,rfl⟩:=Qw e;obtain⟨dx,fs,M,w2⟩:=U _ _ _ _ hok S.own;obtain⟨v,hv,rv⟩:=S.sr.fz j _ (XH S.at_);subst rv;have ha :=S.sr.base a _ (Qbj (S.db _ _ M) M);obtain⟨F1,O,x1,er⟩:=S.sr.see ms;refine⟨.ref a,hv,a,dx,fs,rfl,ha,w2,F1,L,qs,O.sub,er,e1,λus H' F' gr q=>?_⟩;rw[bu];have T:=O.grow gr;have hE :=λb o e=>gr.same b o (S.sr.base b o (Qbj (S.db b o e) e));have f:Zo (PM.frz ms L) j=some a:=by
  have:=Qha ms (XH S.at_);delta Zo;rw[this]
 have l :=S.next mono T (f.trans S.at_.symm) (x1.trans gr.ext)
 refine⟨by have:=hn _ _ _ _ e3;rw[aG,q.length];exact this,F',E,a,t,us,qs,t',rfl,gr.sub,hE,l.df,l.own,q,e3,λH2 F2 E2 G hp=>?_⟩;exact ok σ H2 F2 E2 (SX.called T f S.db G hp)
end
structure OT where
 ks:List Str
 ps:List PV
 mv:Option Nat
noncomputable def Qcx(f:Str)(b:Addr):Option Nat->List (Str×V)
 |none=>[]
 |some _=>[(f,.ref b)]
def Qns(E:Hp)(a f b:Addr):Option Nat->Prop
 |none=>True
 |some n=>b≠a/\b≠f/\∃ws,E b=some (.lst ws)/\ws.length=n
def ObjG(K:aa)(C:Addr)(l:Str)(F E:Hp)(a:Addr)(t:OT):Prop:=∃f b vs,E a=some (.ins C f (t.ks.zip vs++Qcx l b t.mv))/\E f=some (.own a)/\f≠a/\t.ks.length=vs.length/\Qns E a f b t.mv/\RepL K F t.ps vs
def objG_mono K C f:QjU (ObjG K C f):=λ_ _ _ _ _ e j=>by obtain⟨l,b,vs,h1,h2,B,D,E,H⟩:=j;exact⟨l,b,vs,h1,h2,B,D,E,H.mono e⟩
def Qni(C:Addr)(f:Str)(t:OT)(b:Addr):PV:=match t.mv with
 |none=>.obj C t.ks t.ps
 |some _=>.obj C (t.ks++[f]) (t.ps++[.opq b])
def QhU{f:Str}{v:V}(h:ks.length=vs.length):(ks++[f]).zip (vs++[v])=ks.zip vs++[(f,v)]:=by
 rw[List.zip_append h];rfl
def Qjj{K:aa}(hE:∀b o,E b=some o->F b=none)(h:ObjG K C B F E a t):∃b,Rep K (orH F E) (Qni C B t b) (.ref a):=by
 obtain⟨j,b,vs,h1,h2,D,f,H,l⟩:=h;refine⟨b,?_⟩;delta Qni;cases q:t.mv with
 |none =>
  rw[q]at h1;exact⟨a,j,vs,rfl,by rw[<-bu (t.ks.zip vs)];exact Qbj (hE _ _ h1) h1,Qbj (hE _ _ h2) h2,f,l.mono QfY⟩
 |some n =>
  rw[q]at h1;refine⟨a,j,vs++[.ref b],rfl,?_,Qbj (hE _ _ h2) h2,by simp[f],(l.mono QfY).snoc (by rfl)⟩;rw[QhU f];exact Qbj (hE _ _ h1) h1
section
def allB{α:Type}(f:Addr->Option α):Option α:=open Classical in if h:∃k,∀b,f b=some k then some (mm h) else none
def QeD(h:allB f=some k) b:f b=some k:=by
 delta allB at h;split at h;all_goals grind
def QlC(h:∀b,f b=some k):allB f=some k:=by
 delta allB;have q:∃k,∀b,f b=some k:=⟨k,h⟩
 have:=fH q 0;grind
end
def QmB(h1:Same F H)(h2:Same E H)(f:∀b o,E b=some o->F b=none)(hc:E c=some l):GrowX F E H F (upd E c o) (upd H c o):=by
 have j:=f c l hc;refine⟨Same.refl _,λb u e=>?_,λb u e=>?_,λb u e n=>?_,λb u e=>.inl e,λb u e=>?_,λb u e=>?_⟩
 .rw[Qh (Qg e j)];exact h1 b u e
 .by_cases z:b=c
  .subst z;rw[Qf]at e |-;exact e
  .rw[Qh z]at e |-;exact h2 b u e
 .rw[Qh λz=>by subst z;rw[hc]at n;cases n];exact e
 .by_cases z:b=c
  .subst z;exact .inl (by rw[hc];exact λq=>by cases q)
  .rw[Qh z]at e;exact .inl (by rw[e];exact λq=>by cases q)
 .by_cases z:b=c
  .subst z;exact j
  .rw[Qh z]at e;exact f b u e
theorem Qif:∀{ks:List Str}{vs:List V}{i:Nat},ks.length=vs.length->ks[i]?=some f->f∉ks.take i->putF f y (ks.zip vs++tl)=ks.zip (vs.set i y)++tl
 |[],vs,i,_,h,_=>by simp at h
 |k::ks,[],i,h,_,_=>by simp at h
 |k::ks,v::vs,0,_,h,_=>by
  simp at h;subst h;simp[putF]
 |k::ks,v::vs,i+1,hl,h,j=>by
  rw[List.take_succ_cons,ap,not_or]at j;have l:=Qif (y:=y) (tl:=tl) (by simpa using hl) (by simpa using h) j.2;simp only[fm,lE,fJ,putF];rw[aK (λz=>j.1 z.symm),l]
theorem Qig:∀{ks:List Str}{vs:List V},ks.length=vs.length->f∉ks->putF f y (ks.zip vs)=ks.zip vs++[(f,y)]
 |[],[],_,_=>rfl
 |[],_::_,h,_=>by simp at h
 |_::_,[],h,_=>by simp at h
 |k::ks,v::vs,h,j=>by
  rw[ap,not_or]at j;have l:=Qig (y:=y) (by simpa using h) j.2;simp only[fm,fJ,putF];rw[aK (λz=>j.1 z.symm),l]
section
def Qcp(ks:List Str)(f:Str):Option Nat:=ks.findIdx? (·==f)
def putT(f:Str)(r:PV)(t:OT):Option OT:=if t.ks.length<900 then match Qcp t.ks f with
 |some i=>some ⟨t.ks,t.ps.set i r,t.mv⟩
 | none=>match t.mv with
  |none=>some ⟨t.ks++[f],t.ps++[r],none⟩
  |some _=>none
 else none
def Qao(ms:List Nat)(f:Str)(m:MEx):MX OT:=λj t=>(m j).bind λr=>(putT f r t).map λt'=>.nx (frz ms j) t'
def Qgi(h:Qcp ks f=some i):ks[i]?=some f/\f∉ks.take i:=by
 delta Qcp at h;rw[iW]at h;obtain⟨h1,h2,j⟩:=h;refine⟨by rw[aR h1,bg.mp h2],λz=>?_⟩;obtain⟨k,l,e⟩:=dB.mp z;rw[List.getElem_take]at e;rw[dO]at l;have:=j k (by lia);rw[e]at this;simp at this
def Qgj(h:Qcp ks f=none):f∉ks:=by
 delta Qcp at h;rw[jR]at h;intro z;have:=h f z;simp at this
set_option tactic.hygienic true in
def put_ok{K:aa}(B:putT f r t=some t')(h1:E a=some (.ins C l (t.ks.zip vs++Qcx D b t.mv)))(h2:E l=some (.own a))(J:l≠a)(I:t.ks.length=vs.length)(U:Qns E a l b t.mv)(M:RepL K F t.ps vs)(O:Rep K F r y) :
  (t.ks.zip vs++Qcx D b t.mv).length<1000/\ObjG K C D F (upd E a (.ins C l (putF f y (t.ks.zip vs++Qcx D b t.mv)))) a t':=by
 obtain⟨hl,B⟩:=Xe B;have hz:(t.ks.zip vs++Qcx D b t.mv).length<1000:=by
  rw[aO,List.length_zip];have:(Qcx D b t.mv).length<=1:=by cases t.mv<;>simp[Qcx]
  omega
 refine⟨hz,?_⟩;have H:upd E a (.ins C l (putF f y (t.ks.zip vs++Qcx D b t.mv))) l=some (.own a):=by rw[Qh J];exact h2
 have j:∀mv,Qns E a l b mv->Qns (upd E a (.ins C l (putF f y (t.ks.zip vs++Qcx D b t.mv)))) a l b mv:=λmv h=>by
  cases mv with
  |none=>trivial
  |some n =>
   obtain⟨T,Y,ws,q3,q4⟩:=h;exact⟨T,Y,ws,by rw[Qh T];exact q3,q4⟩
 split at B
 .rename_i i L;cases B;obtain⟨k1,k2⟩:=Qgi L;refine⟨l,b,vs.set i y,?_,H,J,by rw[mE];exact I,j _ U,M.set i O⟩;rw[Qf,Qif I k1 k2]
 .rename_i L;split at B
  .rename_i hm;cases B;refine⟨l,b,vs++[y],?_,H,J,by simp[I],trivial,M.snoc O⟩;rw[Qf,hm];show some (HO.ins C l (putF f y (t.ks.zip vs++[])))=some (HO.ins C l ((t.ks++[f]).zip (vs++[y])++[]));rw[bu,bu,Qig I (Qgj L),QhU I]
  .cases B
def xm_fset{X:Cx}{st:Stmt}(hc:Cls X.K C)(O:XX X.K C f)(ps:PS X st (sFld X.K (tVar j) (tM X.K ms m) f)):XM X (ObjG X.K C U) j st (Qao ms f m):=PS.imp ps λD Y H zz=>by
 obtain⟨B,J,F,E,a,L,t,o,S,e,ok⟩:=zz;obtain⟨r,e1,e⟩:=Qb e;obtain⟨t',e2,rfl⟩:=Qw e;obtain⟨v,hv,rv⟩:=S.sr.fz j _ (XH S.at_);subst rv;obtain⟨F1,M,x1,er⟩:=S.sr.see ms;refine⟨F1,L,r,M.sub,er,e1,λy H' F' gr q=>?_⟩;have T:=M.grow gr;have l:Zo (PM.frz ms L) j=some a:=by
  have:=Qha ms (XH S.at_);delta Zo;rw[this]
 have I:=S.next (objG_mono X.K C U) T (l.trans S.at_.symm) (x1.trans gr.ext)
 have hE :=λb o e=>gr.same b o (S.sr.base b o (Qbj (S.db b o e) e));obtain⟨dx,b,vs,h1,h2,h3,h4,h5,h6⟩:=I.own;obtain⟨hz,hp⟩:=put_ok e2 h1 h2 h3 h4 h5 h6 q;refine⟨.ref a,hv,a,C,dx,_,rfl,hE _ _ h1,hc,O,hz,?_⟩;exact ok Y _ F' _ (SX.called T l S.db (QmB gr.sub hE I.df h1) hp)
end
section
def opq_frz ms (h:Zo f j=some a):Zo (PM.frz ms f) j=some a:=by
 have:=Qha ms (XH h);delta Zo;rw[this]
end
section
def okM(f m:Str)(t:OT):Bool := !t.ks.contains m && !(m==f)
def hasM_obj{K:aa}:HasM (ObjG K C f) C m (okM f m):=λF E a t hok j=>by
 obtain⟨l,b,vs,h1,h2,D,H,I,J⟩:=j;delta okM at hok;rw[aN,gF,gF]at hok;refine⟨l,_,h1,?_⟩;have key:∀(ks:List Str) vs (tl:List (Str×V)),ks.contains m=false->tl.lookup m=none->(ks.zip vs++tl).lookup m=none:=by
  intro ks;induction ks with
  |nil=>intro vs tl _ h;simpa using h
  |cons k ks B =>
   intro vs tl hc h;rw[iS,kZ]at hc;cases vs with
   |nil=>simpa using h
   |cons v vs =>
    simp only[fm,fJ,a6,hc.1];exact B vs tl hc.2 h
 refine key _ _ _ hok.1 ?_;cases t.mv with
 |none=>rfl
 |some n=>simp only[Qcx,a6,hok.2,List.lookup_nil]
end
def QjV(P:aY)(w:cf)(K:aa)(mg:Str->Option Value)(base:Heap)(k:Nat)(C:Addr)(m:Str)(n:Nat)(g:List PV->Option PV):Prop :=
 ∃f fd ps,FnOk P w K mg base CX0 k f fd ps (spM K n g)/\Cls K C/\Meth K C m f/\Zp K fd ps []
def CalX(P:aY)(w:cf)(K:aa)(mg:Str->Option Value)(base:Heap)(k:Nat)(C:Addr)(l m:Str)(n:Nat)(g:Addr->List PV->OT->Option OT):Prop :=
 ∃f fd ps,FnOk P w K mg base CX0 k f fd ps (spX K (ObjG K C l) n g)/\Cls K C/\Meth K C m f/\Zp K fd ps []
def Qga(P:aY)(w:cf)(K:aa)(mg:Str->Option Value)(base:Heap)(k:Nat)(C:Addr)(l x:Str)(n:Nat)(g:Addr->List PV->OT->Option OT):Prop :=
 ∃f fd ps,FnOk P w K mg base CX0 k f fd ps (spX K (ObjG K C l) n g)/\Mk K C f/\mg x=some (.ref C)/\Zp K fd ps []
def CFld(K:aa)(C:Addr)(f:Str):Prop:=Cls K C/\XX K C f
def runX_len{f:Type}{N n:Nat}{m:MX f}:∀a qs t t',runX N n m a qs t=some t'->qs.length+1=n:=λa qs t t' h=>by
 delta runX at h;by_cases c:qs.length+1=n
 .exact c
 .rw[aK c]at h;cases h
def trueOn:List PV->Option PV:=λqs=>open Classical in if ∃ns:List Int,ns.length<=63/\qs=[.lst (ns.map .int)] then some (.bl true) else none
def trueOn_ok(ns:List Int)(h:ns.length<=63):trueOn [.lst (ns.map .int)]=some (.bl true):=au ⟨ns,h,rfl⟩
def trueOn_get{g:List PV->Option PV}(h:∀ns:List Int,ns.length<=63->g [.lst (ns.map .int)]=some (.bl true))(e:trueOn qs=some r):g qs=some r:=by
 delta trueOn at e;split at e;all_goals grind
section
def em_fl(h:EM X ms o l)(c:CFld X.K C f)(B:bW o f X.env (eval o X.env)=eval o X.env:=by rfl):EM X ms (.Attribute o f D) (mFld C f l):=em_fld h c.1 c.2 B
def xm_mt(U:PE X (.Name x p2) (tVar j))(c:CalX X.prog X.w X.K X.mg X.base k C J I n g)(Y:∀a qs t t',g a qs t=some t'->qs.length+1=n)(hr:Room k X.A)(ha:AM X ms (e::D) ma)(L:ah (e::D) X.env=(false,eval e X.env)::ah D X.env:=by rfl)(M:(bx l (ah D X.env)).any (·.1)=false:=by rfl)(ht:eval (.Call (.Attribute (.Name x p2) I B) (e::D) [] l) X.env=(do
   let T <-eval (.Name x p2) X.env
   gG B.atName
   let (f,first) <-holding [T] (fg T I pl)
   gP l f first (bx l (ah (e::D) X.env)) (dI l (ce [] X.env))):=by rfl)(hs:cB (.Call (.Attribute (.Name x p2) I B) (e::D) [] l) none O.line X.env=pure false:=by rfl) :
  XM X (ObjG X.K C J) j (.Expr (.Call (.Attribute (.Name x p2) I B) (e::D) [] l) O) (QjM j ms (okM J I) g ma):=by
 obtain⟨f,fd,ps,F,hc,hm,E⟩:=c;exact xm_meth (objG_mono X.K C J) hasM_obj Y (Qaq (QkM U hc hm F hr E .nil Qhs ha L M ht) hs)
def xm_fs(D:PE X (.Name x B) (tVar j))(c:CFld X.K C f)(h:EM X ms e m)(I:cB e (some (.Attribute (.Name x B) f p2)) l.line X.env=pure false:=by rfl):XM X (ObjG X.K C J) j (.Assign [.Attribute (.Name x B) f p2] e l) (Qao ms f m) :=
 xm_fset c.1 c.2 (ps_fld D h I)
end
noncomputable def famC(l:List Addr)(i:Nat):Addr:=l.getD i 0
def mkK(C:Addr)(t:OT):Option PV:=match t.mv with
 |none=>some (.obj C t.ks t.ps)
 |some _=>none
def mNew(C:Addr)(g:Addr->List PV->OT->Option OT)(f:PEnv->Option (List PV)):MEx:=λj=>(f j).bind λqs=>(allB λa=>g a qs ⟨[],[],none⟩).bind (mkK C)
def fldS(Cs:List Addr)(f:Str):PV->Option PV
 |.obj D ks ps=>if Cs.contains D=true then (ks.zip ps).lookup f else none
 |_=>none
def QbF(Cs:List Addr)(f:Str)(m:MEx):MEx:=λj=>(m j).bind (fldS Cs f)
def famK(tab:List (Addr×(List PV->Option PV)))(f:Str):PV->Option (List PV->Option PV)
 |.obj D ks _=>if ks.contains f=false then tab.lookup D else none
 |_=>none
def Qkm(tab:List (Addr×(List PV->Option PV)))(f:Str)(m:MEx)(l:PEnv->Option (List PV)):MEx:=λj=>(m j).bind λq=>(famK tab f q).bind λg=>(l j).bind λps=>g (q::ps)
def baseK(g:Addr->List PV->OT->Option OT)(a:Addr)(t:OT):List PV->Option OT
 |.opq b::rs=>if b=a then g a rs t else none
 |_=>none
def QeE(j:Nat)(ms:List Nat)(g:Addr->List PV->OT->Option OT)(l:PEnv->Option (List PV)):MX OT:=λf t=>(l f).bind λqs=>(Zo f j).bind λa=>(baseK g a t qs).map λt'=>.nx (frz ms f) t'
def lk_nil{P:Addr->α->Prop}:∀D g,[].lookup D=some g->P D g:=λD g h=>by simp at h
def QdW{α:Type}{P:Addr->α->Prop}{x:α}{t:List (Addr×α)}(h1:P a x)(h2:∀D g,t.lookup D=some g->P D g):∀D g,((a,x)::t).lookup D=some g->P D g:=λD g h=>by
 rw[a6]at h;cases q:D==a with
 |true =>
  rw[q]at h;cases h;rw[bg.mp q];exact h1
 |false=>rw[q]at h;exact h2 D g h
def CalR(X:Cx)(C:Addr)(m:Str)(n:Nat)(g:List PV->Option PV):Prop:=∃k,QjV X.prog X.w X.K X.mg X.base k C m n g/\Room k X.A
def CalB(P:aY)(w:cf)(K:aa)(mg:Str->Option Value)(base:Heap)(k:Nat)(C:Addr)(l x m:Str)(n:Nat)(g:Addr->List PV->OT->Option OT):Prop :=
 ∃f fd ps B,FnOk P w K mg base CX0 k f fd ps (spX K (ObjG K C l) n g)/\mg x=some (.ref B)/\lO K (.ref B) "__getattribute__"=some (some (.builtin "type.__getattribute__"))/\mx K B (.type "type")=true /\
  mz K (.ref B) (.type "type") m=some (.val (.ref f))/\bX K (.ref f)=true/\Zp K fd ps []
section
def em_new{g:Addr->List PV->OT->Option OT}(c:Qga X.prog X.w X.K X.mg X.base k C km x n g)(hn:∀a qs t t',g a qs t=some t'->qs.length+1=n)(hr:Room (k+1) X.A)(hg:Gl X x)(ha:AM X ms (e::T) ma)(U:(x=="__debug__")=false:=by decide)(he:ah (e::T) X.env=(false,eval e X.env)::ah T X.env:=by rfl)(Y:(bx J (ah T X.env)).any (·.1)=false:=by rfl) :
  EM X ms (.Call (.Name x p) (e::T) [] J) (mNew C g ma):=by
 obtain⟨f,fd,ps,F,M,hm,av⟩:=c;refine PE.imp (pe_make M F hr hg hm av .nil Qhs ha U he Y) λσ H Q zz=>?_;obtain⟨F,γ,r,k1,k2,k3,w⟩:=zz;obtain⟨qs,e1,k3⟩:=Qb k3;obtain⟨t,e2,e3⟩:=Qb k3;refine⟨F,γ,qs,k1,k2,e1,λus L F' gr q x l nx O B=>?_⟩;rw[bu];generalize D:upd (upd L l (.own x)) x (.ins C l [])=Hn;generalize I:upd (upd (λ_=>none) l (.own x)) x (HO.ins C l [])=E;have sH:Same L Hn:=λb u e=>by
  rw[<-D,Qh (Qg e nx),Qh (Qg e O)];exact e
 have Ex:E x=some (.ins C l []):=by rw[<-I];exact Qf
 have Ed:E l=some (.own x):=by rw[<-I,Qh B];exact Qf
 have Eg:∀b u,E b=some u->b=x\/b=l:=λb u e=>by
  by_cases z1:b=x
  .exact .inl z1
  by_cases z2:b=l
  .exact .inr z2
  rw[<-I,Qh z1,Qh z2]at e;cases e
 have sE:Same E Hn:=λb u e=>by
  rcases Eg b u e with rfl | rfl
  .rw[Ex]at e;cases e;rw[<-D];exact Qf
  .rw[Ed]at e;cases e;rw[<-D,Qh B];exact Qf
 have nE:∀b u,L b=some u->E b=none:=λb u e=>by
  cases y:E b with
  |none=>rfl
  |some w =>
   rcases Eg b w y with rfl | rfl
   .rw[nx]at e;cases e
   .rw[O]at e;cases e
 have Edis:∀b u,E b=some u->F' b=none:=λb u e=>by
  cases y:F' b with
  |none=>rfl
  |some w=>rw[nE b w (gr.sub b w y)]at e;cases e
 have az:=hn _ _ _ _ (QeD e2 x);have free:∀b,L b=none->H b=none:=λb e=>by
  cases y:H b with
  |none=>rfl
  |some u=>rw[gr.same b u y]at e;cases e
 have j:∀b,(E b≠none\/Hn b=none)->H b=none:=λb e=>by
  refine free b ?_;cases y:L b with
  |none=>rfl
  |some u =>
   rcases e with z | z
   .exact absurd (nE b u y) z
   .rw[sH b u y]at z;cases z
 refine⟨by rw[aG,q.length];exact az,F',E,x,⟨[],[],none⟩,us,qs,t,rfl,gr.sub.trans sH,sE,Edis,⟨l,x,[],Ex,Ed,B,rfl,trivial,.nil⟩,q,QeD e2 x,λH2 F2 E2 G hp=>⟨rfl,?_⟩⟩;obtain⟨b,hb⟩:=Qjj G.dj hp;have er:Qni C km t b=r:=by
  delta mkK at e3;delta Qni;revert e3;cases t.mv with
  |none=>intro e3;exact br e3
  |some n=>intro e3;cases e3
 rw[er]at hb;refine w (.ref x) H2 (orH F2 E2) ⟨λb u e=>QfY b u (G.ext b u (gr.ext b u e)),λb u e=>?_,λb u e=>?_,λb u e=>?_⟩ hb
 .rcases Qck e with z|⟨_,z⟩
  .exact G.sub b u z
  .exact G.esub b u z
 .have:=gr.same b u e;exact G.same b u (sH b u this) (nE b u this)
 .rcases Qck e with z|⟨_,z⟩
  .rcases G.new b u z with y | y | y
   .exact gr.new b u y
   .exact .inr (j b (.inr y))
   .exact .inr (j b (.inl y))
  .exact .inr (j b (G.enew b u z))
def em_fldS(h:EM X ms o m)(B:∀D,D∈Cs->CFld X.K D f)(I:bW o f X.env (eval o X.env)=eval o X.env:=by rfl):EM X ms (.Attribute o f J) (QbF Cs f m) :=
 PE.imp (pe_fld h I) λσ H Q E=>by
  obtain⟨F,L,r,k1,k2,k3,w⟩:=E;obtain⟨q,e1,e2⟩:=Qb k3;refine⟨F,L,q,k1,k2,e1,λv H1 F1 j M=>?_⟩;cases q with
  |obj D ks ps =>
   obtain⟨O,e2⟩:=Xe (e2);obtain⟨hc,T⟩:=B D (by simpa using O);obtain⟨a,U,vs,rfl,h2,h3,Y,h5⟩:=M;obtain⟨v',l,rv⟩:=Qbz Y h5 e2;exact⟨a,D,U,_,v',rfl,j.sub _ _ h2,hc,T,l,w _ _ _ j rv⟩
  |_=>cases e2
def tMethS(X:Cx)(m:Str)(B:TE)(t:TA):TE:=λj H Q=>B j H λx l=>∃a C D fs f fd ps sp k,x = .ref a/\l a=some (.ins C D fs)/\fs.lookup m=none/\Cls X.K C/\Meth X.K C m f/\FnOk X.prog X.w X.K X.mg X.base CX0 k f fd ps sp/\Room k X.A/\Zp X.K fd ps [] /\
 t j l λvs E=>sp (.ref a::(vs++[])) E Q E0
def pe_methS(he:PE X o ta)(ha:PA X (e::J) t)(L:ah (e::J) X.env=(false,eval e X.env)::ah J X.env:=by rfl)(M:(bx B (ah J X.env)).any (·.1)=false:=by rfl)(ht:eval (.Call (.Attribute o O D) (e::J) [] B) X.env=(do
   let T <-eval o X.env
   gG D.atName
   let (f,first) <-holding [T] (fg T O pl)
   gP B f first (bx B (ah (e::J) X.env)) (dI B (ce [] X.env))):=by rfl) :
  PE X (.Call (.Attribute o O D) (e::J) [] B) (tMethS X O ta t):=by
 intro j s E H Q I h;refine fF (thn (he j s E H _ I h) λu s1 zz=>?_) ht;obtain⟨x,H1,U,rx,a,C,dx,fs,f,fd,ps,sp,k,ex,ea,l,c,hm,F,hr,hb,q⟩:=zz;subst ex;obtain rfl:u=cR a:=rx;refine QbA U ea c hm l ?_;refine eg I.ok.mod.kin hm.kp (thn (ha B j s1 E H1 _ U q) λus s2 ⟨vs,H2,Y,r,q2⟩=>⟨Y.kIn,?_⟩) L M;exact QgR (vs := .ref a::vs) F hr hb .nil Qhs Y (.cons rfl r) q2
def famK_get(h:famK tab f q=some g):∃D ks ps,q = .obj D ks ps/\ks.contains f=false/\tab.lookup D=some g:=by
 cases q with
 |obj D ks ps =>
  obtain⟨h1,h2⟩:=Xe (h);exact⟨D,ks,ps,rfl,h1,h2⟩
 |_=>cases h
def em_methS(h:EM X ms o mo)(J:∀D g,tab.lookup D=some g->CalR X D L n g/\∀ps r,g ps=some r->ps.length=n)(ha:AM X ns (e::I) ma)(M:ah (e::I) X.env=(false,eval e X.env)::ah I X.env:=by rfl)(O:(bx l (ah I X.env)).any (·.1)=false:=by rfl)(ht:eval (.Call (.Attribute o L B) (e::I) [] l) X.env=(do
   let T <-eval o X.env
   gG B.atName
   let (f,first) <-holding [T] (fg T L pl)
   gP l f first (bx l (ah (e::I) X.env)) (dI l (ce [] X.env))):=by rfl) :
  EM X (ms++ns) (.Call (.Attribute o L B) (e::I) [] l) (Qkm tab L mo ma) :=
 PE.imp (pe_methS h ha M O ht) λσ H Q zz=>by
  obtain⟨F,U,r,k1,k2,k3,w⟩:=zz;obtain⟨q,e1,k3⟩:=Qb k3;obtain⟨g,e4,k3⟩:=Qb k3;obtain⟨xs,e2,k3⟩:=Qb k3;obtain⟨D,ks,qs,rfl,hk,hl⟩:=famK_get e4;obtain⟨⟨k,⟨fa,fd,ps,FO,hc,hm,hb⟩,hr⟩,hn⟩:=J D g hl;refine⟨F,U,_,k1,k2.left,e1,λv H1 F1 j Y=>?_⟩;have q0:=Y;obtain⟨a,dx,vs,rfl,h2,h3,h4,h5⟩:=Y;refine⟨a,D,dx,_,fa,fd,ps,_,k,rfl,j.sub _ _ h2,Xn hk,hc,hm,FO,hr,hb,F1,U,xs,j.sub,k2.right.mono j.ext,e2,λus H2 F2 E q2=>?_⟩;rw[bu];exact⟨by have:=hn _ _ k3;rw[aG]at this |-;rw[q2.length];exact this,F2,_,r,E.sub,.cons (q0.mono E.ext) q2,k3,w.go (j.trans E)⟩
def pe_cls(F:FnOk X.prog X.w X.K X.mg X.base CX0 k fa fd ps sp)(hr:Room k X.A)(hg:Gl X x)(hm:X.mg x=some (.ref B))(h1:lO X.K (.ref B) "__getattribute__"=some (some (.builtin "type.__getattribute__")))(h2:mx X.K B (.type "type")=true)(h3:mz X.K (.ref B) (.type "type") L=some (.val (.ref fa)))(hk:bX X.K (.ref fa)=true)(hb:Zp X.K fd ps [])(ha:PA X (e::J) t)(M:(x=="__debug__")=false:=by decide)(O:ah (e::J) X.env=(false,eval e X.env)::ah J X.env:=by rfl)(T:(bx l (ah J X.env)).any (·.1)=false:=by rfl)(ht:eval (.Call (.Attribute (.Name x p) L D) (e::J) [] l) X.env=(do
   let ov <-eval (.Name x p) X.env
   gG D.atName
   let (f,first) <-holding [ov] (fg ov L pl)
   gP l f first (bx l (ah (e::J) X.env)) (dI l (ce [] X.env))):=by rfl) :
  PE X (.Call (.Attribute (.Name x p) L D) (e::J) [] l) (QjR sp [] E0 t):=by
 intro j s E H Q I h;refine fF (thn (QdR (v := .ref B) hg hm rfl M j s E H (λv U=>v = .ref B/\QjR sp [] E0 t E U Q) I ⟨rfl,h⟩) λu s1 zz=>?_) ht;obtain⟨x,U,Y,rx,ex,q⟩:=zz;subst ex;obtain rfl:u=cR B:=rx;refine PySem.W.method_cls Y.kIn h1 (PySem.W.cls_value Y.kIn h2 h3 rfl ?_);have I2:=Y.tok (s1.toks+1);refine eg I.ok.mod.kin hk (thn (ha l j _ E U _ I2 q) λus s2 ⟨vs,H2,I3,r,q2⟩=>⟨I3.kIn,?_⟩) O T;exact QgR F hr hb .nil Qhs I3 r q2
set_option tactic.hygienic true in
def Qnd(h:baseK g a t qs=some t'):∃rs,qs = .opq a::rs/\g a rs t=some t':=by
 delta baseK at h;split at h
 .rename_i b rs;obtain⟨rfl,h⟩:=Xe h;exact⟨rs,rfl,h⟩
 .cases h
def xm_base{st:Stmt}(O:∀a qs t t',g a qs t=some t'->qs.length+1=n)(ps:PS X st (Qhg (QjR (spX X.K (ObjG X.K C I) n g) [] U (tMA X.K ms Y)))):XM X (ObjG X.K C I) j st (QeE j ms g Y):=PS.imp ps λD σ H zz=>by
 obtain⟨B,J,F,E,a,γ,t,o,S,e,ok⟩:=zz;obtain⟨qs,e1,e⟩:=Qb e;obtain⟨a',e2,e⟩:=Qb e;rw[S.at_]at e2;cases e2;obtain⟨t',e3,rfl⟩:=Qw e;obtain⟨rs,rfl,L⟩:=Qnd e3;obtain⟨F1,M,x1,er⟩:=S.sr.see ms;refine⟨F1,γ,_,M.sub,er,e1,λus H' F' gr q=>?_⟩;rw[bu];obtain⟨v,us,rfl,q1,q⟩:=q;subst q1;have T:=M.grow gr;have hE :=λb o e=>gr.same b o (S.sr.base b o (Qbj (S.db b o e) e));have f:=opq_frz ms S.at_;have l:=S.next (objG_mono X.K C I) T (f.trans S.at_.symm) (x1.trans gr.ext)
 refine⟨by have:=O _ _ _ _ L;rw[aG,q.length];exact this,F',E,_,t,us,rs,t',rfl,gr.sub,hE,l.df,l.own,q,L,λH2 F2 E2 G hp=>?_⟩;exact ok σ H2 F2 E2 (SX.called T f S.db G hp)
def xm_bs(c:CalB X.prog X.w X.K X.mg X.base k C Y x J n g)(hn:∀a qs t t',g a qs t=some t'->qs.length+1=n)(hr:Room k X.A)(hg:Gl X x)(ha:AM X ms (e::I) ma)(L:(x=="__debug__")=false:=by decide)(M:ah (e::I) X.env=(false,eval e X.env)::ah I X.env:=by rfl)(O:(bx l (ah I X.env)).any (·.1)=false:=by rfl)(ht:eval (.Call (.Attribute (.Name x p2) J D) (e::I) [] l) X.env=(do
   let U <-eval (.Name x p2) X.env
   gG D.atName
   let (f,first) <-holding [U] (fg U J pl)
   gP l f first (bx l (ah (e::I) X.env)) (dI l (ce [] X.env))):=by rfl)(hs:cB (.Call (.Attribute (.Name x p2) J D) (e::I) [] l) none T.line X.env=pure false:=by rfl) :
  XM X (ObjG X.K C Y) j (.Expr (.Call (.Attribute (.Name x p2) J D) (e::I) [] l) T) (QeE j ms g ma):=by
 obtain⟨f,fd,ps,B,F,hm,h1,h2,E,H,hb⟩:=c;exact xm_base hn (Qaq (pe_cls F hr hg hm h1 h2 E H hb ha L M O ht) hs)
end
noncomputable def lcg(m i:Nat):Nat:=(i*5+1)%m
def lcgN(m:Nat):Nat->Nat->Nat
 |0,i=>i
 |s+1,i=>lcgN m s (lcg m i)
theorem Qcc m:∀a b i,lcgN m (a+b) i=lcgN m b (lcgN m a i)
 |0,b,i=>by rw[i4];rfl
 |a+1,b,i=>by rw[show a+1+b=(a+b)+1 by lia];exact Qcc m a b (lcg m i)
def Mk2(m:Nat):Prop:=m=8\/m=16\/m=32\/m=64\/m=128\/m=256
def Qhf(m:Nat):Nat->Nat->List Nat
 |0,_=>[]
 |s+1,i=>i::Qhf m s (lcg m i)
theorem Qfi m:∀n i s,s<n->(Qhf m n i)[s]?=some (lcgN m s i)
 |n+1,i,0,_=>rfl
 |n+1,i,s+1,h=>by
  exact Qfi m n (lcg m i) s (by lia)
theorem QcC m:∀n i,(Qhf m n i).length=n
 |0,_=>rfl
 |n+1,i=>by show(Qhf m n (lcg m i)).length+1=n+1;rw[QcC m n]
def Xx(m:Nat):Bool:=Nat.beq (lcgN m m 0) 0&&(ao m).all λf=>(Qhf m m 0).any λx=>Nat.beq x f
def QlX:Xx 8=true/\Xx 16=true/\Xx 32=true/\Xx 64=true/\Xx 128=true/\Xx 256=true:=by decide+kernel
def round_of(h:Mk2 m):Xx m=true:=by
 obtain⟨a,b,c,d,e,f⟩:=QlX;rcases h with rfl | rfl | rfl | rfl | rfl | rfl<;>assumption
def reach0(h:Mk2 m):lcgN m m 0=0/\∀f,f<m->∃s,s<m/\lcgN m s 0=f:=by
 have q:=round_of h;unfold Xx at q;rw[aN,bf]at q;refine⟨kA q.1,λf hf=>?_⟩;have:f∈Qhf m m 0:=by
  obtain⟨x,l,e⟩:=bY.mp (q.2 f (a7.mpr hf));rw[<-kA e];exact l
 obtain⟨s,j,e⟩:=dB.mp this;rw[QcC]at j;have z:=Qfi m m 0 s j;rw[aR (by rw[QcC];exact j),e]at z;exact⟨s,j,(br z).symm⟩
def reach(h:Mk2 m)(l:i<m)(hf:f<m):∃s,s<m/\lcgN m s i=f:=by
 obtain⟨h0,hr⟩:=reach0 h;obtain⟨a,B,rfl⟩:=hr i l;obtain⟨b,D,rfl⟩:=hr f hf;by_cases j:a<=b
 .exact⟨b-a,by lia,by rw[<-Qcc];congr 1;lia⟩
 .refine⟨m-a+b,by lia,?_⟩;rw[Qcc,<-Qcc m a,show a+(m-a)=m by lia,h0]
noncomputable def XI(mask:Nat):Nat->Nat×Nat->Nat×Nat
 |0,x=>x
 |s+1,x=>XI mask s (d5.leap mask x.1 x.2)
theorem QfB mask:∀a b x,XI mask (a+b) x=XI mask b (XI mask a x)
 |0,b,x=>by rw[i4];rfl
 |a+1,b,x=>by rw[show a+1+b=(a+b)+1 by lia];exact QfB mask a b _
theorem QdA mask:∀s i,XI mask s (i,0)=(lcgN (mask+1) s i,0)
 |0,_=>rfl
 |s+1,i=>by
  show XI mask s ((i*5+1+0/32)%(mask+1),0/32)=_;exact QdA mask s _
theorem QdB mask:∀s i p,(XI mask s (i,p)).2=p/32^s
 |0,i,p=>by simp[XI]
 |s+1,i,p=>by
  show(XI mask s ((i*5+1+p/32)%(mask+1),p/32)).2=_;rw[QdB mask s,Nat.div_div_eq_div_mul,Nat.pow_succ,Nat.mul_comm]
theorem Qiu mask:∀s i p,i<mask+1->(XI mask s (i,p)).1<mask+1
 |0,i,p,h=>h
 |s+1,i,p,h=>Qiu mask s _ _ (bA _ (by lia))
def leaps(h:Mk2 (mask+1))(l:i<mask+1)(B:p<2^64)(hf:f<mask+1):∃s,s<gR mask/\(XI mask s (i,p)).1=f:=by
 have z:(XI mask 13 (i,p)).2=0:=by
  rw[QdB];exact Nat.div_eq_of_lt (aF B (by decide))
 obtain⟨s,j,e⟩:=reach h (Qiu mask 13 i p l) hf;refine⟨13+s,by delta gR;lia,?_⟩;rw[QfB,show XI mask 13 (i,p)=((XI mask 13 (i,p)).1,0) from Prod.ext rfl z,QdA];exact e
set_option tactic.hygienic true in
theorem Qlk:∀fuel i p j,d5.layClean.free mask owner fuel i p=some j->owner.getD j (some 0)=none
 |0,i,p,j,h=>by cases h
 |fuel+1,i,p,j,h=>by
  unfold d5.layClean.free at h;split at h
  .rename_i k f;cases h;have:=List.find?_some f;simpa[Option.isNone_iff_eq_none] using this
  .exact Qlk fuel _ _ j h
theorem QfE(hf:owner.getD f (some 0)=none):∀fuel i p,(∃s,s<fuel/\(XI mask s (i,p)).1=f)->∃j,d5.layClean.free mask owner fuel i p=some j
 |0,i,p,⟨s,l,_⟩=>by lia
 |fuel+1,i,p,⟨s,l,e⟩=>by
  unfold d5.layClean.free;split
  .exact⟨_,rfl⟩
  .rename_i B;cases s with
   |zero =>
    have e:i=f:=e;subst e;have z:=List.find?_eq_none.mp B 0 (by rw[a7];delta d5.runEnd;split<;>lia);rw[Nat.add_zero,hf]at z;simp at z
   |succ s=>exact QfE hf fuel _ _ ⟨s,by lia,e⟩
theorem fm_set:∀(l:List (Option Nat)) j k,l[j]?=some none->((l.set j (some k)).filterMap id).Perm (k::l.filterMap id)
 |[],j,k,h=>by simp at h
 |x::l,0,k,h=>by
  have :=by simpa using h
  subst this;simp
 |x::l,j+1,k,h=>by
  have f:=fm_set l j k (by simpa using h);cases x with
  |none=>simpa using f
  |some y =>
   exact(f.cons y).trans (.swap _ _ _)
theorem Qlm:∀(l:List (Option Nat)),(∀x∈l,x≠none)->(l.filterMap id).length=l.length
 |[],_=>rfl
 |x::l,h=>by
  cases x with
  |none=>exact absurd rfl (h none (by simp))
  |some y=>simp[Qlm l λx f=>h x (by simp[f])]
noncomputable def laySt(mask:Nat)(acc:Option (Array (Option Nat)×Nat))(h:Int):Option (Array (Option Nat)×Nat):=do
 let (owner,k) <-acc;let j <-d5.layClean.free mask owner (gR mask) (gf h%(mask+1)) (gf h)
 pure (owner.setIfInBounds j (some k),k+1)
def lay_step(hm:Mk2 (mask+1))(h1:owner.size=mask+1)(h2:(owner.toList.filterMap id).Perm (ao k))(T:k<=mask) h :
  ∃l,laySt mask (some (owner,k)) h=some (l,k+1)/\l.size=mask+1/\(l.toList.filterMap id).Perm (ao (k+1)):=by
 obtain⟨f,hf,E⟩:∃f,f<mask+1/\owner.getD f (some 0)=none:=by
  apply cE;intro H;have all:∀x∈owner.toList,x≠none:=λx L z=>by
   obtain⟨i,J,e⟩:=dB.mp L;rw[bQ]at J;refine H ⟨i,by lia,?_⟩;rw[gb,aM J];rw[Array.getElem_toList]at e;rw[e,z];rfl
  have l1:=Qlm _ all;have l2:=h2.length_eq;rw[am]at l2;have U:owner.toList.length=owner.size:=bQ;lia
 have M:gf h<2^64:=by
  delta gf;lia
 obtain⟨j,hj⟩:=QfE E (gR mask) _ _ (leaps hm (bA _ (by lia)) M hf);have B:=Qlk _ _ _ _ hj;have D:j<owner.size:=by
  apply cE;intro O;rw[gb,b9 (by lia)]at B;cases B
 have I:owner.toList[j]?=some none:=by
  rw[gb,aM D]at B;rw[di,aM D];exact congrArg some B
 refine⟨owner.setIfInBounds j (some k),?_,by rw[Array.size_setIfInBounds];exact h1,?_⟩
 .show(d5.layClean.free mask owner (gR mask) (gf h%(mask+1)) (gf h)).bind _=_;rw[hj];rfl
 .rw[Array.toList_setIfInBounds];refine(fm_set _ _ _ I).trans ?_;rw[ig];exact(h2.cons k).trans (List.perm_append_comm (l₁:=[k]))
theorem Qiv(hm:Mk2 (mask+1)):∀(l:List Int) owner k,owner.size=mask+1->(owner.toList.filterMap id).Perm (ao k)->k+l.length<=mask+1 ->
  ∃f,l.foldl (laySt mask) (some (owner,k))=some (f,k+l.length)/\f.size=mask+1/\(f.toList.filterMap id).Perm (ao (k+l.length))
 |[],owner,k,h1,h2,j=>⟨owner,rfl,h1,h2⟩
 |h::l,owner,k,h1,h2,j=>by
  rw[aG]at j;obtain⟨B,e,D,E⟩:=lay_step hm h1 h2 (by lia) h;obtain⟨H,e2,I,J⟩:=Qiv hm l B (k+1) D E (by lia);refine⟨H,?_,I,?_⟩
  .rw[ij,e,e2,aG];congr 2;lia
  .rw[aG,show k+(l.length+1)=k+1+l.length by lia];exact J
def QhA(hm:Mk2 (mask+1)) f (l:f.size<=mask+1):∃owner,d5.layClean mask f=some owner/\owner.size=mask+1/\(owner.toList.filterMap id).Perm (ao f.size):=by
 obtain⟨o,e,j,B⟩:=Qiv hm f.toList (mF (mask+1) none) 0 (by simp) (by simp) (by grind);refine⟨o,?_,j,by grind⟩;show(f.foldl (laySt mask) (some (mF (mask+1) none,0))).map (·.1)=_;grind
def Qij(owner:Array (Option Nat)) n (h:owner.size=n):(((ao n).filterMap λj=>(owner.getD j none).map (j,·)).map (·.2))=owner.toList.filterMap id:=by
 subst h;rw[List.map_filterMap];have:owner.toList=(ao owner.size).map λj=>owner.getD j none:=by
  apply gY
  .simp
  .intro i h1 h2;simp[ aM (show i<owner.size by simpa using h1)]
 rw[this,lG];congr 1;funext j;simp[ Option.map_map];cases owner[j]?.getD none<;>rfl
def QkX{led plain:Bool}(hm:Mk2 (mask+1)) f (I:f.size<=mask) :
  ∃t order,jl mask finger moves led plain f=some (t,order)/\order.toList.Perm (ao f.size)/\t.led=led/\Up t.place/\t.fits f.size=true/\t.mask=mask/\t.dummies = #[]:=by
 obtain⟨o,e,B,D⟩:=QhA hm f (by lia);have l:((ao (mask+1)).filterMap λj=>(o.getD j none).map (j,·)).length=f.size:=by
  have:=congrArg ee (Qij o (mask+1) B);rw[ai]at this;rw[this,D.length_eq,am]
 have e2:jl mask finger moves led plain f=some ({ mask:=mask,place:=(((ao (mask+1)).filterMap λj=>(o.getD j none).map (j,·)).map (·.1)).toArray,dummies := #[],finger:=finger,led:=led,moves:=moves,plain:=plain },(((ao (mask+1)).filterMap λj=>(o.getD j none).map (j,·)).map (·.2)).toArray):=by
  delta jl;rw[e];rfl
 refine⟨_,_,e2,?_,rfl,?_,?_,rfl,rfl⟩
 .rw[List.toList_toArray,Qij o (mask+1) B];exact D
 .exact QbI (λj=>o.getD j none) _
 .delta lw lx;rw[aQ,ai,l];simp[I]
section
def keyS:Value->Str
 |.str k _=>k
 |_=>""
def Qcn(h:(strKind prog w).is k v=true):keyS v=k:=by
 cases v with
 |str y t=>exact(strKind prog w).inj (.str y t) y k (kG _ _ _ _) h
 |_=>exact absurd h (by simp[gH,ge])
def YV(h:kC (strKind prog w) l)(he:e∈l):(strKind prog w).is (keyS e.2) e.2=true/\e.1=(strKind prog w).hash (keyS e.2)/\e.2.scannable=true:=by
 obtain⟨⟨k,h1,h2⟩,f⟩:=h e he;rw[Qcn h1];exact⟨h1,h2,f⟩
structure SetK (prog:aY) (w:cf) (L:Bool) (h:Heap) (a:Addr) (o:Obj) (es:Array (Int×Value)) (ep:Nat) (t:d5) (M:List Str):Prop where
 ho:h.get? a=some o
 ex:o.ExactSet
 hd:o.data = .set es ep t
 el:kC (strKind prog w) es.toList
 ks:(es.toList.map λe=>keyS e.2).Perm M
 nd:M.Nodup
 sb:es.size<eZ
 hf:t.fits es.size=true
 kp:Kept L t
def Ym.toK(x:Ym prog w L h a M):∃o f l t,SetK prog w L h a o f l t M:=by
 obtain⟨o,f,l,t,h1,h2,D,E,H,I,J,T,B,j⟩:=x;refine⟨o,f,l,t,h1,h2,D,E,?_,B,I,J,j⟩;refine QaB B (λk O=>?_) (by rw[ai,bQ];lia);obtain⟨e,he,q⟩:=(H k).mp O;exact aU.mpr ⟨e,he,Qcn q⟩
def SetK.toL(x:SetK prog w L h a o f l t M):Ym prog w L h a M:=by
 refine⟨o,f,l,t,x.ho,x.ex,x.hd,x.el,λk=>⟨λj=>?_,λ⟨e,he,q⟩=>?_⟩,x.sb,x.hf,?_,x.nd,x.kp⟩
 .obtain⟨e,he,rfl⟩:=aU.mp (x.ks.mem_iff.mpr j);exact⟨e,he,(YV x.el he).1⟩
 .exact x.ks.mem_iff.mp (aU.mpr ⟨e,he,Qcn q⟩)
 .have:=x.ks.length_eq;rw[ai,bQ]at this;exact this
def find_K(x:SetK prog w L s.heap a o l I t M)(fin:∀r,(∀i,r=some i->∃e,l.toList[i]?=some e/\keyS e.2=k)->(r=none->k∉M)->Q r s):aE (model prog w) A (setFind a (.str k tk) ((strKind prog w).hash k)) Q E s:=by
 have B:(strKind prog w).is k (.str k tk)=true:=kG _ _ _ _;refine ac (bh x.ho x.hd x.hf ?_);dsimp only;rw[byScan_of (rfl) x.sb x.el,au rfl];refine ac (fX (ac (wpAny_setScan_of B x.ho x.hd x.hf x.el ?_)));cases hr:List.findIdx? (λe=>(strKind prog w).is k e.2) l.toList with
 |some j =>
  obtain⟨hj,D,_⟩:=iW.mp hr;refine ag (fin _ (λi f=>?_) λz=>by cases z);cases f;rw[i4];exact⟨_,aR hj,Qcn D⟩
 |none =>
  refine ag (fin _ (λi f=>by cases f) λ_ z=>?_);obtain⟨e,he,rfl⟩:=aU.mp (x.ks.mem_iff.mpr z);have:=jR.mp hr e he;rw[(YV x.el he).1]at this;cases this
def Qaj(xs:Array α) i:(f6 xs i).toList=xs.toList.eraseIdx i:=by
 grind[f6,Array.toList_extract,c7]
theorem Qeo{t:d5}:t.fits n=true↔t.place.size=n/\t.place.size+t.dummies.size<=t.mask:=by
 show(t.place.size==n&&decide (t.place.size+t.dummies.size<=t.mask))=true↔_;grind
theorem Qdz(f:α->B):∀(l:List α) i,(l.eraseIdx i).map f=(l.map f).eraseIdx i
 |[],_=>rfl
 |x::l,0=>rfl
 |x::l,i+1=>by
  show f x::(l.eraseIdx i).map f=f x::(l.map f).eraseIdx i;rw[Qdz f l i]
def QhD xs p (x:α):(h7 xs p x).size=xs.size+1:=by
 grind[Qbd,aO]
theorem QdF(xs:Array α)(h:i<xs.size):(f6 xs i).size=xs.size-1:=by
 rw[<-bQ,Qaj,iy,au (by exact h),bQ]
theorem QjE{t:d5}(h:i<t.place.size):(t.drop i).place=f6 t.place i/\(t.drop i).dummies.size=t.dummies.size+1/\(t.drop i).mask=t.mask:=by
 delta d5.drop;rw[aM h];exact⟨rfl,QhD _ _ _,rfl⟩
def QmU{t:d5}(h:t.fits n=true)(f:i<n):(t.drop i).fits (n-1)=true:=by
 grind[Qeo,QjE,QdF]
def QmT(k:Kept L t) i:Kept L (t.drop i):=by
 delta d5.drop;split
 .refine⟨k.1,?_⟩;delta Up;rw[Qaj];exact k.2.sublist (List.eraseIdx_sublist _ _)
 .exact k
def QmW(x:SetK prog w L s.heap a o f D t M)(fin:∀b I,bR a s.heap I->(∃o f D t,SetK prog w L I a o f D t (M.erase k))->Q b { s with heap:=I }):aE (model prog w) A (setDiscardHashed a (.str k tk) ((strKind prog w).hash k)) Q E s:=by
 refine ac (find_K x λr h1 h2=>?_);cases r with
 |none =>
  refine ag ?_;have z:=fin false s.heap (d8 a s.heap) ⟨o,f,D,t,by rw[List.erase_of_not_mem (h2 rfl)];exact x⟩;exact z
 |some i =>
  obtain⟨e,he,H⟩:=h1 i rfl;have U :=by
   have:=(aw.mp he).1
   rwa [bQ]at this
  refine ac (bh x.ho x.hd x.hf ?_);have sz:=QdF f U;have J:=QdQ x.ho x.hd (f6 f i) (t.drop i);refine ac (hV x.ho x.hd ?_ (eQ (by have:=x.sb;lia)));refine ac (wpAny_point (ag (fin true _ (dn s.heap a _) ⟨_,_,_,_,J,x.ex,rfl,?_,?_,x.nd.erase k,by have:=x.sb;lia,?_,QmT x.kp i⟩)))
  .intro Y j;rw[Qaj]at j;exact x.el Y (List.mem_of_mem_eraseIdx j)
  .rw[Qaj,Qdz];have O:(f.toList.map λe=>keyS e.2)[i]?=some k:=by rw[aT,he];exact congrArg some H
   obtain⟨l,B⟩:=aw.mp O;have p1:=Qai l;rw[B]at p1;have T:k∈M:=x.ks.mem_iff.mp (by rw[<-B];exact bi l);exact(List.perm_cons k).mp ((p1.trans x.ks).trans (ix T))
  .rw[sz];exact QmU x.hf U
end
section
def walk_K(x:SetK prog w (!byT w) s.heap a o f l t M)(fin:∀ys d,ys.toList.Perm f.toList->Q ys { s with drawn:=d }):aE (model prog w) A (setWalk a) Q E s:=by
 refine ac (bh x.ho x.hd x.hf ?_);refine ac (ac (cH (ag ?_)));refine(show aE _ A (if byT w=true then _ else _) _ E s from ?_);cases T:byT w with
 |true =>
  exact ac (cH (ag (fin _ s.drawn (QaU _ _))))
 |false =>
  refine(show aE _ A (if QbQ f t=true then _ else _) _ E s from ?_);cases D:QbQ f t with
  |true =>
   exact ac (Qeu _ _ _ _ (by rw[bQ]) λys d p=>ag (fin _ d (by exact p)))
  |false =>
   have hl :=by have:=x.kp.1;rw[T]at this;exact this
   refine ac (show aE _ A (if (!t.led&&decide (f.size>1))=true then unsupported _ else pure ()) _ E s from ?_);rw[hl,aK (by simp)];exact ag (ag (fin f s.drawn (.refl _)))
def QkJ(h:∀a∈f,∃L o l I t M,SetK prog w L s.heap a o l I t M)(fin:Q true s):aE (model prog w) A (setsQuiet f) Q E s:=by
 refine ac (wpAny_forIn_list _ (λrest b s'=>b=⟨none,⟨⟩⟩/\s'=s/\∀a∈rest,a∈f) _ ?_ ?_ _ _ ⟨rfl,rfl,λa B=>B⟩)
 .rintro a rest b s' ⟨rfl,D,H⟩;obtain rfl:=D.symm;obtain⟨L,o,l,I,t,M,x⟩:=h a (H a (by simp));refine ac (ac (bh x.ho x.hd x.hf (ag ?_)));refine ac (jo _ (λr b j=>b=⟨none,⟨⟩⟩/\s=j/\∀e∈r,e∈l.toList) _ ?_ ?_ _ _ ⟨rfl,rfl,λe he=>he⟩)
  .rintro⟨n,v⟩ r b j ⟨rfl,rfl,hr⟩;have J:=(YV x.el (hr (n,v) (by simp))).1;cases v with
   |str y t=>exact ag ⟨rfl,rfl,λe he=>hr e (by simp[he])⟩
   |_=>exact absurd J (by simp[gH,ge])
  .rintro b j ⟨rfl,rfl,_⟩;exact ag ⟨rfl,rfl,λa B=>H a (by simp[B])⟩
 .rintro b s' ⟨rfl,rfl,_⟩;exact ag fin
end
theorem QiE:∀l:List α,(ao l.length).filterMap (λi=>l[i]?)=l
 |[]=>rfl
 |x::l=>by
  rw[aG,kq,cL (a:=0) (b:=x) rfl,lG];exact congrArg (x :: ·) (QiE l)
def Qll{α:Type}{f:Array α}{order:Array Nat}(h:order.toList.Perm (ao f.size)):(order.filterMap (f[·]?)).toList.Perm f.toList:=by
 rw[Array.toList_filterMap];have z:=h.filterMap (λi=>f[i]?);have e :=by
  have:=QiE f.toList;simpa using this
 rwa [e]at z
def Qfs{xs ys:Array α}(h:xs.toList.Perm ys.toList):xs.size=ys.size:=by
 have:=h.length_eq;grind
def QcV(h:n<256):Mk2 (bN n)/\n<bN n:=by
 have key:∀n<256,(bN n=8\/bN n=16\/bN n=32\/bN n=64\/bN n=128\/bN n=256)/\n<bN n:=by decide+kernel
 exact key n h
section
def Qnl(x:SetK prog w L s.heap a o I J t M)(el:kC (strKind prog w) f.toList)(ks:(f.toList.map λe=>keyS e.2).Perm N)(nd:N.Nodup)(sb:f.size<eZ)(hf:t'.fits f.size=true)(kp:Kept L t')(fin:∀l D B,bR a s.heap l->SetK prog w L l a D f B t' N->Q () { s with heap:=l }):aE (model prog w) A (storeSet a f t') Q E s :=
 hV x.ho x.hd (fin _ _ _ (dn s.heap a _) ⟨QdQ x.ho x.hd f t',x.ex,rfl,el,ks,nd,sb,hf,kp⟩) (eQ sb)
def QkG{L:Bool}{a:Addr}{o:Obj}{f:Array (Int×Value)}{O:Nat}{t:d5}{M:List Str}{wanted:Nat}{Q:Unit->aC->Prop}(x:SetK prog w L s.heap a o f O t M)(hw:wanted<256)(hn:f.size<=wanted)(fin:∀B D I l t',bR a s.heap B->SetK prog w L B a D I l t' M->t'.mask+1=bN wanted->t'.dummies = #[]->Q () { s with heap:=B }):aE (model prog w) A (setRelay a wanted) Q E s:=by
 obtain⟨H,m2⟩:=QcV hw;refine ac (bh x.ho x.hd x.hf ?_);dsimp only;have line:¬bN wanted>aI:=by
  rw[gs];delta Mk2 at H;lia
 rw[aK line];have j:bN wanted-1+1=bN wanted:=by lia
 obtain⟨t',order,e1,e2,e3,T,J,e6,U⟩:=QkX (by rw[j];exact H) (f.map (·.1)) (by rw[eN];lia);rw[eN]at e2 J;have Y:t.relaid (f.map (·.1)) wanted=some (t',order):=e1;rw[Y];have p:=Qll e2;have ps:=Qfs p;refine ac (show aE _ A (if ((order.filterMap (f[·]?)).size != f.size)=true then (unsupported _ >>= λ_=>pure (order.filterMap (f[·]?),t')) else pure (order.filterMap (f[·]?),t')) _ E s from ?_);rw[aK (by rw[ps];simp)];refine ag (Qnl x (x.el.perm p) ((p.map _).trans x.ks) x.nd (by rw[ps];exact x.sb) (by rw[ps];exact J) ⟨e3.trans x.kp.1,T⟩ λB D l sb y=>fin B D _ l t' sb y (by lia) U)
def tidy_K(x:SetK prog w L s.heap a o l B t M)(I:M.length<64)(fin:∀f,bR a s.heap f->(∃o l B t,SetK prog w L f a o l B t M)->Q () { s with heap:=f }):aE (model prog w) A (setTidy a) Q E s:=by
 have hl:=x.ks.length_eq;rw[ai,bQ]at hl;refine ac (bh x.ho x.hd x.hf ?_);dsimp only;split
 .have g:dS l.size=l.size*4:=by
   delta dS;rw[aK (by lia)]
  exact QkG x (by lia) (by lia) λf H j D t' sb y _ _=>fin f sb ⟨_,_,_,_,y⟩
 .exact ag (fin s.heap (d8 a s.heap) ⟨_,_,_,_,x⟩)
end
section
def SetK.at(x:SetK prog w L h a o f l t M)(e:B.get? a=h.get? a):SetK prog w L B a o f l t M :=
 ⟨e.trans x.ho,x.ex,x.hd,x.el,x.ks,x.nd,x.sb,x.hf,x.kp⟩
def SetK.len(x:SetK prog w L h a o f l t M):f.size=M.length:=by
 have hl:=x.ks.length_eq;grind
def room_K(x:SetK prog w L s.heap a o #[] D t [])(hm:t.mask=7)(hd:t.dummies = #[])(T:n<128)(fin:∀l B f t',bR a s.heap l->SetK prog w L l a B #[] f t' []->Mk2 (t'.mask+1)->n<=t'.mask->t'.dummies = #[]->Q () { s with heap:=l }):aE (model prog w) A (setRoomFor a n) Q E s:=by
 have j:t.place.size=0:=(Qeo.mp x.hf).1;refine ac (bh x.ho x.hd x.hf ?_);delta d5.roomFor lx;rw[j,hd,hm];by_cases h:(0+(#[]:Array Nat).size+n)*5>=7*3
 .rw[au h];refine QkG x (by lia) (by show 0<=_;lia) λl B H f t' sb y I J=>?_;have M :=Array.eq_empty_of_size_eq_zero y.len;subst M;obtain⟨O,U⟩:=QcV (n:=(0+n)*2) (by lia);exact fin l B f t' sb y (by rw[I];exact O) (by lia) J
 .rw[aK h];exact ag (fin s.heap o D t (d8 a s.heap) x (by rw[hm];exact .inl rfl) (by lia) hd)
def merge_K{L:Bool}{a r:Addr}{o ro:Obj}{f:Array (Int×Value)}{I rep:Nat}{t rt:d5}{M:List Str}{Q:Unit->aC->Prop}(x:SetK prog w L s.heap a o f I t M)(y:SetK prog w L s.heap r ro #[] rep rt [])(ne:r≠a)(hm:rt.mask=7)(hd:rt.dummies = #[])(hn:M.length<128)(fin:∀l,bR r s.heap l->(∃o f I t,SetK prog w L l r o f I t M)->Q () { s with heap:=l }):aE (model prog w) A (setMerge r a) Q E s:=by
 have hl:=x.len;delta setMerge;rw[aK (by simpa using ne)];refine ac (bh x.ho x.hd x.hf ?_);dsimp only;by_cases h0:f.isEmpty=true
 .rw[au h0];have:f.size=0:=by simpa using h0
  have:M=[]:=List.eq_nil_of_length_eq_zero (by lia);subst this;exact ag (fin s.heap (d8 r s.heap) ⟨_,_,_,_,y⟩)
 .rw[aK h0];refine ac (room_K y hm hd (by lia) λh1 o1 T t1 D j k1 k2 k3=>?_);refine ac (bh j.ho j.hd j.hf ?_);have H :=(Qeo.mp j.hf).1;have B:t1.road t=if (t1.mask==t.mask&&t.dummies.isEmpty)=true then .slotForSlot else .clean:=by
   delta d5.road lx;rw[H,k3];rfl
  rw[B];have led:(t1.led&&t.led)=L:=by rw[j.kp.1,x.kp.1,Bool.and_self]
  by_cases h2:(t1.mask==t.mask&&t.dummies.isEmpty)=true
  .rw[au h2];exact Qnl j x.el x.ks x.nd x.sb x.hf ⟨led,x.kp.2⟩ λl U J sb z=>fin l (D.trans sb) ⟨_,_,_,_,z⟩
  .rw[aK h2];obtain⟨t',order,e1,e2,e3,Y,O,e6,e7⟩:=QkX k1 (f.map (·.1)) (by rw[eN];lia);rw[eN]at e2 O;rw[e1];have p:=Qll e2;have ps:=Qfs p;refine ac (show aE _ A (if ((order.filterMap (f[·]?)).size != f.size)=true then (unsupported _ >>= λ_=>pure (order.filterMap (f[·]?),t')) else pure (order.filterMap (f[·]?),t')) _ E _ from ?_);rw[aK (by rw[ps];simp)];exact ag (Qnl j (x.el.perm p) ((p.map _).trans x.ks) x.nd (by rw[ps];exact x.sb) (by rw[ps];exact O) ⟨e3.trans led,Y⟩ λl U J sb z=>fin l (D.trans sb) ⟨_,_,_,_,z⟩)
def Qhc(x:SetK prog w (!byT w) s.heap a o f l t M)(h:∀b∈XV,∃L o f l t M,SetK prog w L s.heap b o f l t M)(fin:∀ys d,ys.toList.Perm f.toList->Q ys { s with drawn:=d }):aE (model prog w) A (lq a XV none) Q E s:=by
 refine ac (bh x.ho x.hd x.hf ?_);refine ac (ac (cH (ag ?_)));split
 .exact walk_K x fin
 .refine ac (QkJ (λb j=>?_) ?_)
  .rcases ap.mp j with rfl | j
   .exact⟨_,_,_,_,_,_,x⟩
   .exact h b j
  .exact ac (fX (ag (fin f s.drawn (.refl _))))
def Qhb(x:SetK prog w (!byT w) s.heap a o l D t M)(y:SetK prog w (!byT w) s.heap f U I J O N)(h:∀b∈XV,∃L o l D t M,SetK prog w L s.heap b o l D t M)(fin:∀ys B d,ys.toList.Perm l.toList->bR f s.heap B->(∃o l D t,SetK prog w (!byT w) B f o l D t N)->Q ys { s with heap:=B,drawn:=d }):aE (model prog w) A (lq a XV (some f)) Q E s:=by
 have j:∀(ys:Array (Int×Value)) d,ys.toList.Perm l.toList->Q ys { s with drawn:=d }:=λys d p=>fin ys s.heap d p (d8 f s.heap) ⟨_,_,_,_,y⟩;unfold lq setsByText;refine ac (bh x.ho x.hd x.hf ?_);dsimp only;refine ac (ac (cH (ag ?_)));split
 .exact walk_K x j
 .refine ac (QkJ (λb H=>?_) ?_)
  .rcases ap.mp H with rfl | H
   .exact⟨_,_,_,_,_,_,x⟩
   .exact h b H
  .rw[aK (by decide)];refine ac (fX ?_);refine ac (bh y.ho y.hd y.hf ?_);dsimp only;split
   .refine ac (Qnl y y.el y.ks y.nd y.sb y.hf ⟨?_,y.kp.2⟩ λB Y T sb z=>ag (fin l B s.drawn (.refl _) sb ⟨_,_,_,_,z⟩));show(O.led&&t.led)=_;rw[y.kp.1,x.kp.1,Bool.and_self]
   .exact ag (j l s.drawn (.refl _))
end
section
def SetK.ty{s:aC}(x:SetK prog w L s.heap a o f l t M):s.TypeIs (.ref a) "set":=⟨o,x.ho,x.ex.1⟩
def Qcf(T:s.TypeIs (.ref a) "set")(h:Q true s):aE (model prog w) A (je.Frozenset.isAnySet (.ref a)) Q E s:=by
 refine ac (fY T jC ?_);exact ag h
def new_K(fin:∀f o,f=s.heap.push o->SetK prog w (!byT w) f s.heap.objs.size o #[] 0 (.fresh 0 0 (!byT w)) []->Q (.ref s.heap.objs.size) { s with heap:=f }) :
  aE (model prog w) A (newSet (.type "set")) Q E s:=by
 refine ac (ac (cH (ag ?_)));refine bU (fin _ _ rfl ?_);refine⟨ay _ rfl,⟨rfl,rfl,rfl⟩,rfl,λe he=>by simp at he,.refl _,.nil,by decide,by rfl,rfl,by delta Up;simp[d5.fresh]⟩
def base_K(T:s.TypeIs (.ref a) "set")(h:Q (.type "set") s):aE (model prog w) A (je.Frozenset.baseOf a) Q E s:=by
 exact ac (fY T jC (ag h))
def copy_K(x:SetK prog w (!byT w) s.heap a o B D t M)(I:M.length<128)(fin:∀f,(∀b o,s.heap.get? b=some o->f.get? b=some o)->(∃o B D t,SetK prog w (!byT w) f s.heap.objs.size o B D t M)->Q (.ref s.heap.objs.size) { s with heap:=f }):aE (model prog w) A (je.Frozenset.copyOf a) Q E s:=by
 have l :=aD x.ho;refine ac (base_K x.ty (ac (new_K λf J e y=>?_)));subst e;refine ac (ag ?_);refine ac (merge_K (x.at ?_) y (f8 l) rfl rfl I λj sb z=>ag (fin j (λb ob H=>?_) z))
 .exact(af _ x.ho).trans x.ho.symm
 .exact(sb.2 b (aL (aD H))).trans (af _ H)
def SetK.ext(x:SetK prog w L h a o f l t M)(e:∀b o,h.get? b=some o->B.get? b=some o):SetK prog w L B a o f l t M :=
 x.at ((e _ _ x.ho).trans x.ho.symm)
def QaA{id:String}(x:SetK prog w L s.heap a o l f t M)(h:Q () s):aE (model prog w) A (je.Frozenset.unchanged id a f) Q E s:=by
 refine ac (ac (bh x.ho x.hd x.hf (ag ?_)));rw[aK (by simp)];exact ag h
def QgQ(x:SetK prog w L s.heap a o f l t M)(h:Q M.length s):aE (model prog w) A (je.Frozenset.sizeOf a) Q E s:=by
 refine ac (ew x.ho x.hd x.hf (ag ?_));rw[x.len];exact h
def Qlp(x:SetK prog w L s.heap a o l f t M)(h:Q f s):aE (model prog w) A (mI a) Q E s:=by
 exact ac (bh x.ho x.hd x.hf (ag h))
def QcT{M N K:List Str}(f:M.Nodup)(hK:K.Nodup)(h:∀j,j∈K↔j∈M/\j∉N):K.Perm (M.filter λj=>decide (j∉N)) :=
 (gu hK (f.filter _)).mpr λj=>by rw[h,bc,dP]
def update_K{id:String}{r a:Addr}{ro o:Obj}{L D:Array (Int×Value)}{rep I:Nat}{rt t:d5}{M N:List Str}{Q:Unit->aC->Prop}(x:SetK prog w (!byT w) s.heap r ro L rep rt M)(y:SetK prog w (!byT w) s.heap a o D I t N)(ne:r≠a)(hM:M.length<64)(hN:¬N.length/8>M.length)(fin:∀f d K,bR r s.heap f->(∃o D I t,SetK prog w (!byT w) f r o D I t K)->K.Perm (M.filter λj=>decide (j∉N))->Q () { s with heap:=f,drawn:=d }):aE (model prog w) A (jA id r (.ref a)) Q E s:=by
  delta jA;have nb:((cR a)==.ref r)=false:=by
    rw[aW];exact λe=>ne (by cases e;rfl)
  rw[nb,aK (by decide)];refine ac (Qcf y.ty ?_);refine ac (ag (ac (QgQ y (ac (QgQ x ?_)))));rw[aK hN];refine ac (Qlp y (ac (cr (ac (Qhc y (λb hb=>?_) λys d py=>?_)))))
  · rw[al]at hb
    subst hb;exact⟨_,_,_,_,_,_,x⟩
  · refine ac (jo _ (λrest b s'=>∃H f K,H++rest=ys.toList/\s'={ s with heap:=f,drawn:=d }/\bR r s.heap f/\(∃o D I t,SetK prog w (!byT w) f r o D I t K) /\
        ∀j,j∈K↔j∈M/\j∉H.map λe=>keyS e.2) _ ?_ ?_ _ _ ⟨[],s.heap,M,rfl,rfl,d8 _ _,⟨_,_,_,_,x⟩,λj=>by simp⟩)
    · rintro⟨n,v⟩ rest b s' ⟨H,f,K,e1,rfl,sb,⟨o1,O,T,t1,J⟩,mem⟩
      have U:(n,v)∈D.toList:=py.mem_iff.mp (by rw[<-e1];simp);obtain⟨v1,v2,v3⟩:=YV y.el U;cases v with
      |str k tk =>
        have Y:n=(strKind prog w).hash k:=v2;subst Y;dsimp only;refine ac (cr (QmW (s:={ s with heap:=f,drawn:=d }) J λbb l B z=>?_));have y2:SetK prog w (!byT w) l a o D I t N:=y.at ((B.2 a (Ne.symm ne)).trans (sb.2 a (Ne.symm ne)));refine ac (QaA (s:={ s with heap:=l,drawn:=d }) y2 (ag ?_));refine⟨H++[((strKind prog w).hash k,.str k tk)],l,K.erase k,by rw[<-e1];simp,rfl,sb.trans B,z,λj=>?_⟩;rw[J.nd.mem_erase_iff,mem,bF,aP];show _↔j∈M/\¬(_\/j∈[k]);rw[al];constructor
        · rintro⟨q1,q2,q3⟩
          exact⟨q2,λq=>q.elim q3 q1⟩
        · rintro⟨q2,q⟩
          exact⟨λz=>q (.inr z),q2,λz=>q (.inl z)⟩
      |_=>exact absurd v1 (by simp[gH,ge])
    · rintro b s' ⟨H,f,K,e1,rfl,sb,⟨o1,O,T,t1,J⟩,mem⟩
      rw[bu]at e1;subst e1;have pk:K.Perm (M.filter λj=>decide (j∉N)):=QcT x.nd J.nd λj=>by
        rw[mem,((py.map λe:Int×Value=>keyS e.2).trans y.ks).mem_iff]
      have kl:K.length<64:=by
        have:=pk.length_eq;have:=bM (λj=>decide (j∉N)) M;lia
      exact ag (tidy_K (s:={ s with heap:=f,drawn:=d }) J kl λl B z=>fin l d K (sb.trans B) z pk)
def Qgl{id:String}{a b:Addr}{o bo:Obj}{D I:Array (Int×Value)}{T J:Nat}{t bt:d5}{M N:List Str}{Q:Value->aC->Prop}(x:SetK prog w (!byT w) s.heap a o D T t M)(y:SetK prog w (!byT w) s.heap b bo I J bt N)(hM:M.length<64)(fin:∀f d K,(∀b o,s.heap.get? b=some o->f.get? b=some o)->Ym prog w (!byT w) f s.heap.objs.size K->K.Perm (M.filter λj=>decide (j∉N))->Q (.ref s.heap.objs.size) { s with heap:=f,drawn:=d }) :
  aE (model prog w) A (kt id a (.ref b)) Q E s:=by
 delta kt;have blt:b<s.heap.objs.size:=aD y.ho;have H:a<s.heap.objs.size:=aD x.ho;refine ac (Qcf y.ty ?_);refine ac (ag ?_);refine ac (QgQ y (ac (QgQ x ?_)));by_cases hs:M.length/4>N.length
 .rw[au hs];refine ac (fX (ac (copy_K x (by lia) λf ext zz=>?_)));obtain⟨o1,U,Y,t1,x1⟩:=zz;refine ac (ag (ac (cr ?_)));refine update_K x1 (y.ext ext) (f8 blt) hM (by lia) λav d K sb ⟨o2,ak,aJ,t2,z⟩ pk=>ag ?_;exact fin av d K (λc B hc=>(sb.2 c (aL (aD hc))).trans (ext c B hc)) z.toL pk
 .rw[aK hs];refine ac (base_K x.ty (ac (new_K λf o' e z=>?_)));have ext:∀c B,s.heap.get? c=some B->f.get? c=some B:=λc B hc=>by rw[e];exact af _ hc
  have x':=x.ext ext;have y':=y.ext ext;refine ac (ag (ac (Qlp (s:={ s with heap:=f }) x' (ac (cr ?_)))));rw[au rfl];refine ac (Qhb (s:={ s with heap:=f }) x' z (λc hc=>?_) λys h1 d py az ⟨o1,U,Y,t1,z1⟩=>?_)
  .simp only[ap,ml,or_false]at hc;rcases hc with rfl | rfl
   .exact⟨_,_,_,_,_,_,y'⟩
   .exact⟨_,_,_,_,_,_,z⟩
  .refine ac (jo _ (λrest _ s'=>∃l h2 K,l++rest=ys.toList/\s'={ s with heap:=h2,drawn:=d }/\bR s.heap.objs.size f h2/\Ym prog w (!byT w) h2 s.heap.objs.size K/\K.Nodup/\K.length<=l.length /\
    ∀j,j∈K↔(j∈l.map λe:Int×Value=>keyS e.2)/\j∉N) _ ?_ ?_ _ _ ⟨[],h1,[],rfl,rfl,az,z1.toL,.nil,aB _,λj=>by simp⟩)
   .rintro⟨n,v⟩ rest _ s' ⟨l,h2,K,e1,rfl,sb,O,nd,kl,mem⟩;have aq:(n,v)∈D.toList:=py.mem_iff.mp (by rw[<-e1];simp);obtain⟨v1,v2,v3⟩:=YV x.el aq;have ln:l.length+1<=M.length:=by
     have q1:=congrArg ee e1;have q2:=py.length_eq;have q3:=(bQ (xs:=D)).trans x.len;rw[aO,aG]at q1;lia
    cases v with
    |str k tk =>
     have aj:n=(strKind prog w).hash k:=v2;subst aj;dsimp only;have y2:SetK prog w (!byT w) h2 b bo I J bt N:=y'.at (sb.2 b (aL blt));have x2:SetK prog w (!byT w) h2 a o D T t M:=x'.at (sb.2 a (aL H));refine ac (cr ?_);rw[au rfl];refine ac (find_K (s:={ s with heap:=h2,drawn:=d }) y2 λrr f1 f2=>ac (ag ?_));cases rr with
     |some i =>
      obtain⟨e,he,hk⟩:=f1 i rfl;have kN:k∈N:=y.ks.mem_iff.mp (aU.mpr ⟨e,bT he,hk⟩);rw[aK (by simp)];refine ag (ac (QaA (s:={ s with heap:=h2,drawn:=d }) x2 (ag ?_)));refine⟨l++[((strKind prog w).hash k,.str k tk)],h2,K,by rw[<-e1];simp,rfl,sb,O,nd,by rw[aO];lia,λj=>?_⟩;rw[mem,bF,aP];show _↔(_\/j∈[k])/\_;rw[al];exact⟨λq=>⟨.inl q.1,q.2⟩,λq=>⟨q.1.elim (λz=>z) λz=>absurd (z▸kN) q.2,q.2⟩⟩
     |none =>
      have kN:=f2 rfl;rw[au (by simp)];refine ac (add_LS (s:={ s with heap:=h2,drawn:=d }) O (by have:eZ=4096:=rfl;lia) λbb h3 L z3=>ag ?_);have x3:SetK prog w (!byT w) h3 a o D T t M:=x2.at (L.2 a (aL H));refine ac (QaA (s:={ s with heap:=h3,drawn:=d }) x3 (ag ?_));refine⟨l++[((strKind prog w).hash k,.str k tk)],h3,Yl K k,by rw[<-e1];simp,rfl,sb.trans L,z3,Xm nd k,?_,λj=>?_⟩
      .have:=Qfz K k;rw[aO];show _<=l.length+1;lia
      .rw[QfA,mem,bF,aP];show _↔(_\/j∈[k])/\_;rw[al];exact⟨λq=>q.elim (λq=>⟨.inl q.1,q.2⟩) λq=>⟨.inr q,q▸kN⟩,λq=>q.1.elim (λz=>.inl ⟨z,q.2⟩) .inr⟩
    |_=>exact absurd v1 (by simp[gH,ge])
   .rintro _ s' ⟨l,h2,K,e1,rfl,sb,O,nd,kl,mem⟩;rw[bu]at e1;subst e1;refine ag (ag (fin h2 d K (λc B hc=>(sb.2 c (aL (aD hc))).trans (ext c B hc)) O (QcT x.nd nd λj=>?_)));rw[mem,((py.map λe:Int×Value=>keyS e.2).trans x.ks).mem_iff]
end
section
def Qhl{M:List Str}{Q:Value->aC->Prop}(calm:A.handled=none)(hS:Ym prog w (!byT w) s.heap D M)(aj:M.length<64)(fin:∀(L:Addr) T tk d B ns e,(∀b o,s.heap.get? b=some o->T.get? b=some o)->s.heap.objs.size<=L->T.get? L=some (cQ "list" B e)->jV B.toList ns->ns.Perm M->sortedS ns=true ->
   Q (.ref L) { s with heap:=T,toks:=tk,drawn:=d }):aE (model prog w) A (call (.builtin "sorted") [.ref D]) Q E s:=by
 obtain⟨o,es,ep,t,ho,hex,hd,H,hm,hb,hf,hn,I,J⟩:=hS;have hC:SetC s.heap D es ep t:=⟨o,ho,hex,hd,hf⟩
 refine hQ kind_sorted plain_sorted entry_sorted (args_sorted1 _) ?_;refine ac (ag ?_);refine ac (QhN calm hC J hb λh1 tk d ord k1 U O=>?_);have ol:ord.length=M.length:=by
  have:=O.length_eq;rw[this,<-hn];simp
 have x:SetK prog w (!byT w) s.heap D o es ep t M:=by
  refine⟨ho,hex,hd,H,?_,I,hb,hf,J⟩;refine QaB I (λk hk=>?_) (by rw[ai,bQ];lia);obtain⟨e,he,q⟩:=(hm k).mp hk;exact aU.mpr ⟨e,he,Qcn q⟩
 have f:jV (ord.map (·.2)) (ord.map λe=>keyS e.2):=by
  have key:∀e∈ord,(strKind prog w).is (keyS e.2) e.2=true:=λe he=>(YV H (O.mem_iff.mp he)).1;clear O ol;induction ord with
  |nil=>exact .nil
  |cons y l ih =>
   obtain⟨n,v⟩:=y;have hy:=key (n,v) bB;cases v with
   |str k tk=>exact .cons k tk (ih λe he=>key e (ax _ he))
   |_=>exact absurd hy (by simp[gH,ge])
 have kM:(ord.map λe=>keyS e.2).Perm M:=(O.map _).trans x.ks;refine ac (ik ?_);have vl:(ord.map (·.2)).length<64:=by rw[ai];lia
 have j:(h1.push (cQ "list" (ord.map (·.2)).toArray 0)).get? h1.objs.size=some (cQ "list" (ord.map (·.2)).toArray 0):=ay _ rfl;refine ac (cr (b5 slot_list_sort ⟨_,j,rfl⟩ mr (list_sort_treeK strKind_oneLt j f.keysOf (λaz aq rest e=>keyKind_strs (by rw[<-e];exact f)) vl λak a1 a2=>⟨_,rfl,?_⟩) (args_list_sort _)));obtain⟨Y,b1,b2,b3⟩:=sorted_out_str f a1 a2;obtain⟨e,av⟩:=sortedHeap_at j;refine ag ⟨_,rfl,fin h1.objs.size _ tk d _ Y e (λb o q=>?_) U av b1 (b2.trans kM) b3⟩;have q1:=k1 b o q;have bl:=aD q1;rw[sortedHeap_old (aL bl) (by rw[bH];exact cp bl)];exact af _ q1
def QeJ:mK table "set.__sub__"=some je.«frozenset.__sub__» :=
 kL (id' := "frozenset.__sub__") (by kernel_rfl) rfl (by decide+kernel) (by kernel_rfl)
def sub_sets(x:Ym prog w (!byT w) s.heap a M)(y:Ym prog w (!byT w) s.heap b N)(l:M.length<64)(fin:∀f d K,(∀b o,s.heap.get? b=some o->f.get? b=some o)->Ym prog w (!byT w) f s.heap.objs.size K->K.Perm (M.filter λj=>decide (j∉N))->Q (.ref s.heap.objs.size) { s with heap:=f,drawn:=d }) :
  aE (model prog w) A (bV .Sub (.ref a) (.ref b)) Q E s:=by
 obtain⟨o,H,I,t,x⟩:=x.toK;obtain⟨J,B,D,L,y⟩:=y.toK;refine wpAny_binaryOp_same x.ty y.ty PySem.F.fills_set_sub kR ?_;refine b5 kR x.ty QeJ ?_ (PySem.F.args_set_sub_2 _ _);refine ac (ag ?_);refine ac (ac (Qcf x.ty (Qcf y.ty ?_)));refine ac (ag (ac (Qgl x y l λf d K k1 k2 k3=>ag ⟨_,rfl,by simp,fin f d K k1 k2 k3⟩)))
end
section
def QbD(hc:X.calm=true):YQ X (.type "set") (λvs H Q=>∃(l:Addr)(ns:List Str),vs=[.ref l]/\SqL X.K H l (ns.map V.str)/\ns.length<1000/\∀p M,H p=none->M.Perm (once ns)->Q (.ref p) (upd H p (Zx X p M))):=by
 intro B s O H vs us Q I rs h;obtain⟨l,ns,rfl,hl,T,q⟩:=h;obtain⟨u,rfl,E⟩:=Yq rs;cases E;obtain⟨j,D,J,_⟩:=I.list hl;have f:=D.length;rw[ai]at f;refine(QfO (I.ok.hd hc) (by simpa using Qeb D) (by simp only[aQ];show j.length+1<4096;lia) λU tk z k=>?_).2 J.isList;have e:j.toArray.size=ns.length:=by simp only[aQ];exact f.symm
 rw[e]at z;refine⟨.ref s.heap.objs.size,upd H s.heap.objs.size (Zx X s.heap.objs.size _),I.laid (t':=tk) (λb o q=>k b o (aD q) q) (aB _) ⟨z,?_,λh1 h2 L k1=>L.at k1⟩,rfl,q _ _ I.fresh (Qdu ns)⟩;obtain⟨o,_,_,_,ho,_⟩:=z;exact⟨o,ho⟩
def Qcg(hc:X.calm=true):YQ X (.builtin "sorted") (λvs H Q=>∃D M,vs=[.ref D]/\H D=some (Zx X D M)/\M.length<64/\∀l ns,H l=none->ns.Perm M->sortedS ns=true->Q (.ref l) (upd H l (.lst (ns.map V.str)))):=by
 intro B s σ H vs us Q I rs h;obtain⟨D,M,rfl,O,f,q⟩:=h;obtain⟨u,rfl,T⟩:=Yq rs;cases T;obtain⟨z,_,_⟩:=I.hok D _ O;refine Qhl (I.ok.hd hc) z f λL h' tk d j ns e k E at' U J Y=>?_;have hn :=I.hok.fresh E;have hv:=QcB U;refine⟨.ref L,upd H L (.lst (ns.map V.str)),(I.laid (o := .lst (ns.map V.str)) k E ⟨?_,j.toList,e,hv,by simp_all⟩).drawn d,rfl,q L ns hn J Y⟩;rw[ai,J.length_eq];exact b8 (ft f (by decide))
def Qjh:OpR X (bV .Sub) (λv u H Q=>∃a b M N,v = .ref a/\u = .ref b/\H a=some (Zx X a M)/\H b=some (Zx X b N)/\M.length<64/\∀p K,H p=none->K.Perm (M.filter λj=>decide (j∉N))->Q (.ref p) (upd H p (Zx X p K))):=by
 intro f s Y H v u v' u' Q I l B h;obtain⟨a,b,M,N,rfl,rfl,D,E,J,q⟩:=h;cases l;cases B;obtain⟨L,_,_⟩:=I.hok a _ D;obtain⟨O,_,_⟩:=I.hok b _ E;refine sub_sets L O J λh' d K k z T=>?_;refine⟨.ref s.heap.objs.size,upd H s.heap.objs.size (Zx X s.heap.objs.size K),(I.laid (o:=Zx X s.heap.objs.size K) k (aB _) ⟨z,?_,λh1 h2 U k1=>U.at k1⟩).drawn d,rfl,q _ _ I.fresh T⟩;obtain⟨o,_,_,_,ho,_⟩:=z;grind
end
def QaW:List PV->List PV->Option (List PV)
 | [.lst xs],[.lst ys]=>match strs? xs,strs? ys with
  |some ns,some ks=>if ns.length<1000/\ks.length<1000/\(once ns).length<64 then some ((QA ((once ns).filter λj=>decide (j∉ks))).map .str) else none
  |_,_=>none
 |_,_=>none
def QcI(l B:PEnv->Option (List PV)):PEnv->Option (List PV):=λf=>(l f).bind λx=>(B f).bind λy=>QaW x y
def QaX:List PV->Option PV
 | [.lst xs]=>match strs? xs with
  |some ns=>if ns.length<1000 then some (.int (once ns).length) else none
  |none=>none
 |_=>none
section
def Qko{K:aa}(h:RepL K F [.lst xs] vs):∃l us,vs=[.ref l]/\SqL K F l us/\RepL K F xs us:=by
 obtain⟨v,t,rfl,f,j⟩:=h;subst j;obtain⟨l,us,rfl,B,D⟩:=f;exact⟨l,us,rfl,B,D⟩
set_option tactic.hygienic true in
def eo_sortDiff(hc:X.calm=true)(hg:Gl X "set")(hm:X.mg "set"=none)(aq:Gl X "sorted")(aj:X.mg "sorted"=none)(ha:AM X ms [a] ma)(hb:AM X ns [b] mb)(hs:ah [a] X.env=(false,eval a X.env)::ah [] X.env:=by rfl)(ak:(bx D (ah [] X.env)).any (·.1)=false:=by rfl)(aJ:ah [b] X.env=(false,eval b X.env)::ah [] X.env:=by rfl)(L:(bx f (ah [] X.env)).any (·.1)=false:=by rfl)(O:ah [.BinOp (.Call (.Name "set" p1) [a] [] D) .Sub (.Call (.Name "set" p3) [b] [] f) B] X.env=(false,eval (.BinOp (.Call (.Name "set" p1) [a] [] D) .Sub (.Call (.Name "set" p3) [b] [] f) B) X.env)::ah [] X.env:=by rfl)(T:(bx U (ah [] X.env)).any (·.1)=false:=by rfl) :
  EO X (ms++ns) (.Call (.Name "sorted" p2) [.BinOp (.Call (.Name "set" p1) [a] [] D) .Sub (.Call (.Name "set" p3) [b] [] f) B] [] U) (QcI ma mb) :=
 PE.imp (YF (Qcg hc) aq aj (by kernel_rfl) (ZK (pe_op Qjh (ZS (QbD hc) hg hm (by kernel_rfl) ha (by decide) (by decide) hs ak) (ZS (QbD hc) hg hm (by kernel_rfl) hb (by decide) (by decide) aJ L)) Qav O) (by decide) (by decide) O T) λσ H Q zz=>by
  obtain⟨F,γ,r,k1,k2,k3,w⟩:=zz;obtain⟨qs,e1,k3⟩:=Qb k3;obtain⟨rs,e2,k3⟩:=Qb k3;refine⟨F,γ,qs,k1,k2.left,e1,λvs H1 F1 Y q1=>?_⟩;delta QaW at k3;split at k3
  .obtain⟨l,us,rfl,sl,rl⟩:=Qko q1;split at k3
   .rename_i ns ks aZ bv;obtain⟨⟨c1,c2,c3⟩,rfl⟩:=Qi k3;have bz:=ZO aZ rl;subst bz;refine⟨l,ns,rfl,Y.sub.seq sl,c1,λp M hp hM=>?_⟩;have g2:Grow F1 H1 F1 (upd H1 p (Zx X p M)) := .side Y.sub hp;refine⟨F1,γ,_,g2.sub,k2.right.mono Y.ext,e2,λcv H2 F2 g3 q2=>?_⟩;obtain⟨l2,cz,rfl,bq,bj⟩:=Qko q2;have e3:=ZO bv bj;subst e3;refine⟨l2,ks,rfl,g3.sub.seq bq,c2,λE N bJ hN=>?_⟩;have g4:Grow F2 H2 F2 (upd H2 E (Zx X E N)) := .side g3.sub bJ;refine⟨p,E,M,N,rfl,rfl,g4.same p _ (g3.same p _ Qf),Qf,by rw[hM.length_eq];exact c3,λI K av hK=>?_⟩;have g5:Grow F2 (upd H2 E (Zx X E N)) F2 (upd (upd H2 E (Zx X E N)) I (Zx X I K)) := .side g4.sub av;have az:K.Perm ((once ns).filter λj=>decide (j∉ks)):=by
     refine(hK.trans (hM.filter _)).trans ?_;rw[lV (q:=λj=>decide (j∉ks)) λj _=>decide_eq_decide.mpr (not_congr (hN.mem_iff.trans Qby))]
    refine⟨I,K,rfl,Qf,?_,λl3 zs J hz bZ=>?_⟩
    .have:=bM (λj=>decide (j∉ks)) (once ns);have:=az.length_eq;lia
    have ez:zs=QA ((once ns).filter λj=>decide (j∉ks)):=Xd (hz.trans az) (YD _ bZ);subst ez;have gA:=(g2.trans g3).trans (g4.trans g5);have g6:=gA.trans (.side (o := .lst ((QA ((once ns).filter λj=>decide (j∉ks))).map V.str)) gA.sub J);exact w l3 _ _ F2 (Y.trans g6) (Y.same.free (gA.same.free J)) (gA.sub.free J) Qf (Yz _)
   .cases k3
  .cases k3
set_option tactic.hygienic true in
def em_lenSetLS(hc:X.calm=true)(Y:Gl X "set")(hm:X.mg "set"=none)(J:Gl X "len")(L:X.mg "len"=none)(ha:AM X ms [a] ma)(hs:ah [a] X.env=(false,eval a X.env)::ah [] X.env:=by rfl)(O:(bx f (ah [] X.env)).any (·.1)=false:=by rfl)(B:ah [.Call (.Name "set" p1) [a] [] f] X.env=(false,eval (.Call (.Name "set" p1) [a] [] f) X.env)::ah [] X.env:=by rfl)(D:(bx I (ah [] X.env)).any (·.1)=false:=by rfl) :
  EM X ms (.Call (.Name "len" p2) [.Call (.Name "set" p1) [a] [] f] [] I) (Qc QaX ma) :=
 PE.imp (YF Qbg J L PySem.boot_len (ZK (ZS (QbD hc) Y hm (by kernel_rfl) ha (by decide) (by decide) hs O) Qav B) (by decide) (by decide) B D) λσ H Q zz=>by
  obtain⟨F,γ,r,k1,k2,k3,w⟩:=zz;obtain⟨qs,e1,k3⟩:=Qb k3;refine⟨F,γ,qs,k1,k2,e1,λvs U j E q1=>?_⟩;delta QaX at k3;split at k3
  .obtain⟨l,us,rfl,sl,rl⟩:=Qko q1;split at k3
   .rename_i ns T;obtain⟨c1,rfl⟩:=Qi k3;have e2:=ZO T rl;subst e2;refine⟨l,ns,rfl,E.sub.seq sl,c1,λp M hp hM=>?_⟩;refine⟨p,M,rfl,Qf,?_⟩;have g2:Grow j U j (upd U p (Zx X p M)) := .side E.sub hp;rw[hM.length_eq];exact w _ _ j (E.trans g2) (Qp _)
   .cases k3
  .cases k3
end
section
def Qlh{α:Type}{l:List α}{d:α}(h:i<l.length):l.getD i d=l[i]:=by
 rw[jK,aR h];rfl
def Qhh:∀{vs:List Value}{ns:List Str},jV vs ns->∀i,i<vs.length->∃f,vs[i]?=some (.str (ns.getD i "") f)
 := by
 intro vs ns r;induction r with
 |nil=>intro i h;simp at h
 |cons y t r j =>
  intro i h;cases i with
  |zero=>exact⟨t,rfl⟩
  |succ i=>obtain⟨f,e⟩:=j i (by simpa using h);exact⟨f,by simpa using e⟩
def QlO{l:Addr}{vs:List Value}{ns:List Str}{k:Str}{t:Tok}{Q:Value->aC->Prop}(hl:IsTup s.heap l vs.toArray)(I:jV vs ns)(J:k∈ns)(h:Q (.int (ns.idxOf k) s.toks) { s with toks:=s.toks+1 }):aE (model prog w) A (call (.builtin "tuple.index") [.ref l,.str k t]) Q E s:=by
 obtain⟨o,ho,hc,n,hd⟩:=hl;refine b5 jW ⟨_,ho,hc⟩ PySem.F.entry_tuple_index ?_ (PySem.F.args_tuple_index_2 _ _);refine ac (ag ?_);refine ac (wpAny_tupleItemsOf ho hd (ac (ag (ac (ag (ac ?_))))));have H :=I.length;have hj :=bE.mpr J;rw[Std.Legacy.Range.forIn_eq_forIn_range'];refine wpAny_forIn_list _ (λrest b s'=>b=⟨none,⟨⟩⟩/\s=s'/\∃i,rest=List.range' i (vs.length-i)/\i<=ns.idxOf k) _ ?_ ?_ _ _ ⟨rfl,rfl,0,?_,cG _⟩
 .rintro x rest b s' ⟨rfl,rfl,i,hr,j⟩;have B:i<vs.length:=by lia
  have e1:vs.length-i=(vs.length-(i+1))+1:=by lia
  rw[e1,mj]at hr;obtain⟨rfl,rfl⟩:=List.cons.inj hr;obtain⟨L,M⟩:=Qhh I x B;have D:vs.toArray[x]?=some (.str (ns.getD x "") L):=by simpa using M
  rw[D];refine ac (eqBool_str ?_);by_cases he:ns.getD x ""=k
  .have O:x=ns.idxOf k:=by
    by_cases f:x<ns.idxOf k
    .have:=List.not_of_lt_findIdx f;rw[Qlh (show x<ns.length by lia)]at he;rw[he]at this;simp at this
    .lia
   rw[au (by simpa using he)];subst O;refine ac (ac (wpAny_mkInt (ag (ag (ag ⟨_,rfl,h⟩)))))
  .rw[aK (by simpa using he)];refine ag ⟨rfl,rfl,x+1,rfl,?_⟩;have:x≠ns.idxOf k:=λq=>he (by rw[q,Qlh hj,et]);lia
 .rintro b s' ⟨rfl,rfl,i,hr,j⟩;have:=congrArg ee hr;rw[cN,List.length_range']at this;lia
 .simp[Std.Legacy.Range.size]
end
def Yp:PV->List PV->Option PV
 | .tup xs,[.str k]=>match strs? xs with
  |some ns=>if k∈ns then some (.int (ns.idxOf k)) else none
  |none=>none
 |_,_=>none
def QgY:PV->Bool
 |.tup (.int _::_)=>false
 |.tup _=>true
 |_=>false
def mMtT(g:PV->List PV->Option PV)(m:MEx)(l:PEnv->Option (List PV)):MEx:=λf=>(m f).bind λp=>if QgY p=true then (l f).bind λps=>g p ps else none
def tBT(K:aa)(r:V->List V->Hp->VK->Prop)(to:TE)(t:TA):TE:=λf H Q=>to f H λx j=>(∃a xs,x = .ref a/\SqT K j a xs/\∀i y,xs≠[V.int i,y])/\t f j λxs l=>r x xs l Q
section
def pe_bmT{X:Cx}{B:Pos}{f:Pos}{id:String}(slot:lB "tuple" name id)(O:typeOf (.builtin id)=pure (.type "method_descriptor"))(hm:MtR X id r)(ho:PE X o to)(ha:PA X (e::D) t)(J:bW o name X.env (eval o X.env)=eval o X.env:=by rfl)(M:((bx f (ah (e::D) X.env)).all (λx => !x.1)&&(dI f (ce [] X.env)).all (λx=>x.1.isSome)
   && decide ((e::D).length+([]:List d4).length+(if ([]:List d4).isEmpty then 0 else 1)<30))=true:=by rfl)(L:(B.endLine==f.line)=true:=by rfl)(hs:ah (e::D) X.env=(false,eval e X.env)::ah D X.env:=by rfl)(l:(bx f (ah D X.env)).any (·.1)=false:=by rfl) :
  PE X (.Call (.Attribute o name B) (e::D) [] f) (tBT X.K r to t):=by
 intro j s E H Q I h;refine l7 J M L rfl (thn (ho j s E H _ I h) λv s1 zz=>?_);obtain⟨x,H1,Y,r1,⟨a,xs,hx,hS,hN⟩,q1⟩:=zz;subst hx;have T:=r1;cases r1;obtain⟨av,rv,⟨ob,p1,p2,U,p4⟩,_⟩:=Y.tupleD hS;have U:ob.dict=none:=by
  rcases U with z|⟨i,y,z⟩
  .exact z
  .exact absurd z (hN i y)
 refine⟨"tuple",id,PySem.F.plainAttrs_tuple,slot,O,⟨ob,p1,p2⟩,λa e=>by cases e;exact⟨ob,p1,U⟩,?_⟩;have hA:=ha f j s1 E H1 _ Y q1;rw[hs]at hA |-;refine iI (by show(false||(bx f (ah D X.env)).any (·.1))=false;rw[l]<;>rfl) (jb ?_);exact thn hA λus s2 ⟨vs,H2,I2,r2,q2⟩=>hm j s2 E H2 _ vs _ us Q I2 T r2 q2
def em_mtT(h:EM X ms o m)(ha:AM X ns (e::I) J)(M:PE X (.Call (.Attribute o name f) (e::I) [] B) (tBT X.K (rMt X.K g) (tM X.K ms m) (tMA X.K ns J))):EM X (ms++ns) (.Call (.Attribute o name f) (e::I) [] B) (mMtT g m J) :=
 PE.imp M λσ H Q ⟨F,L,r,k1,k2,k3,w⟩=>by
  obtain⟨p,e1,k3⟩:=Qb k3;cases p with
  |tup xs =>
   have T:QgY (.tup xs)=true:=by
    by_cases c:QgY (.tup xs)=true
    .exact c
    .rw[aK c]at k3;cases k3
   rw[au T]at k3;obtain⟨ps,e2,k3⟩:=Qb k3;refine⟨F,L,.tup xs,k1,k2.left,e1,λv H1 O j D=>⟨?_,O,L,ps,j.sub,k2.right.mono j.ext,e2,λvs H2 U E Y=>?_⟩⟩
   .unfold Rep at D;obtain⟨a,vs,rfl,sq,l⟩:=D;refine⟨a,vs,rfl,j.sub.seqT sq,λi y z=>?_⟩;subst z;cases xs with
    |nil=>unfold RepL at l;cases l
    |cons p ps =>
     unfold RepL at l;obtain⟨v1,t1,e5,l,_⟩:=l;cases e5;cases p<;>unfold Rep at l<;>first | (cases T;done) | (cases l;done) | (obtain⟨_,_,z,_⟩:=l;cases z;done) | (obtain⟨_,_,_,z,_⟩:=l;cases z;done)
   .exact⟨U,.tup xs,ps,r,E.sub,D.mono E.ext,Y,k3,w.go (j.trans E)⟩
  |_=>rw[aK (λz=>by cases z)]at k3;cases k3
set_option tactic.hygienic true in
def Qmk:MtR X "tuple.index" (rMt X.K Yp):=by
 intro B s T H x xs v us Q I D rs h;obtain⟨F,p,ps,r,h1,h2,j,f,w⟩:=h;delta Yp at f;split at f
 .split at f
  .rename_i ys l;obtain⟨c,rfl⟩:=Qi f;obtain⟨a,ws,rfl,k2,k3⟩:=h2;cases D;obtain⟨U,Y,rfl,j,E⟩:=j;subst E;subst j;obtain⟨u,rfl,J⟩:=Yq rs;obtain⟨tk,rfl⟩:=J;have e3:=ZO l k3;subst e3;obtain⟨L,M,O,_⟩:=I.tuple (h1.seqT k2);exact QlO O (Yy M) c ⟨.int _,H,I.tok _,⟨_,rfl⟩,w.here h1 (Qp _)⟩
  .cases f
 .cases f
def em_indexT(h:EM X ms o m)(M:AM X ns (e::I) O)(B:bW o "index" X.env (eval o X.env)=eval o X.env:=by rfl)(J:((bx f (ah (e::I) X.env)).all (λx => !x.1)&&(dI f (ce [] X.env)).all (λx=>x.1.isSome)
   && decide ((e::I).length+([]:List d4).length+(if ([]:List d4).isEmpty then 0 else 1)<30))=true:=by rfl)(D:(L.endLine==f.line)=true:=by rfl)(T:ah (e::I) X.env=(false,eval e X.env)::ah I X.env:=by rfl)(l:(bx f (ah I X.env)).any (·.1)=false:=by rfl) :
  EM X (ms++ns) (.Call (.Attribute o "index" L) (e::I) [] f) (mMtT Yp m O) :=
 em_mtT h M (pe_bmT jW PySem.F.type_tuple_index Qmk h M B J D T l)
def sExE(ms:List Nat)(m:MEx):MSt:=λf=>(m f).map λr=>.nx (Qx (flat r) ms f)
def sm_exE(h:EM X ms e m)(I:cB e none f.line X.env=pure false:=by rfl):SM X (.Expr e f) (sExE ms m):=PS.imp (Qaq h I) λD U H E=>by
 obtain⟨B,j,F,J,o,S,e,ok⟩:=E;obtain⟨r,e1,e2⟩:=Qw e;subst e2;obtain⟨L,l,Y,M⟩:=S.see ms;refine⟨L,J,r,l.sub,M,e1,λv H' F' g q=>?_⟩;obtain⟨O,T,q2⟩:=S.val l g q;exact ok _ _ O T
end
end L2.PM
namespace L2.PM
open PySem PySem.Spec PyProof.Rows HT
end L2.PM
namespace L2.PM
open PySem PySem.Spec PyProof.Rows
def sExM(ms:List Nat)(i:Nat)(m:MEx):MSt:=λf=>(m f).bind λr=>match r with
 |.tup _=>sExt ms i m f
 |_=>sExl ms i m f
section
def rExtM(K:aa):V->List V->Hp->VK->Prop:=λx xs H Q=>rExtT K x xs H Q\/rExtL K x xs H Q
def mt_exM:MtM X "list.extend" (rExtM X.K):=λf s j H x xs v us Q I l rs h=>h.elim (mt_extT f s j H x xs v us Q I l rs) (mt_exl f s j H x xs v us Q I l rs)
set_option tactic.hygienic true in
def sm_exM(hx:PE X (.Name x p2) (tVar i))(h:EM X ms e m)(ps:PS X (.Expr (.Call (.Attribute (.Name x p2) "extend" I) [e] [] J) M) (Qhg (tBM X.K "list" (rExtM X.K) (tVar i) (tMA X.K ms (Qa m aNil))))) :
  SM X (.Expr (.Call (.Attribute (.Name x p2) "extend" I) [e] [] J) M) (sExM ms i m):=PS.imp ps λD σ H zz=>by
 obtain⟨B,av,F,γ,o,S,e,ok⟩:=zz;obtain⟨r0,e0,e⟩:=Qb e;split at e
 .obtain⟨r,e1,e⟩:=Qb e;delta extK at e;split at e
  .rename_i ys xs E;obtain⟨⟨hl,c⟩,rfl⟩:=Qi e;obtain⟨a,vs,h1,h2,_⟩:=S.ow i xs E;obtain⟨O,L,x1,T⟩:=S.see ms;refine⟨.ref a,h1,QbT (.of h2),O,γ,[.tup ys],L.sub,T,by simp[Qa,aNil,e1],λus H' F' g q=>?_⟩;obtain⟨v,t,rfl,q,U⟩:=q;subst U;obtain⟨Y,j,q2⟩:=S.val L g q;have f:=Qba (k:=flat (.tup ys)) E (by rw[c];exact hU _);obtain⟨a2,l,k1,k2,k3,_⟩:=j.ow i xs f;rw[h1]at k1;cases k1;obtain⟨b,ws,rfl,sb,rb⟩:=q2;refine .inl ⟨a,b,l,ws,rfl,rfl,k2,j.sub.seqT sb,?_,?_⟩
   .rw[k3.length,rb.length];exact b8 (aF hl Qv)
   .exact ok _ _ Y (j.write f h1 (k3.append rb))
  .cases e
 .obtain⟨r,e1,e⟩:=Qb e;delta exlK at e;split at e
  .rename_i ys xs E;obtain⟨⟨hl,c⟩,rfl⟩:=Qi e;obtain⟨a,vs,h1,h2,_⟩:=S.ow i xs E;obtain⟨O,L,x1,T⟩:=S.see ms;refine⟨.ref a,h1,QbT (.of h2),O,γ,[.lst ys],L.sub,T,by simp[Qa,aNil,e1],λus H' F' g q=>?_⟩;obtain⟨v,t,rfl,q,U⟩:=q;subst U;obtain⟨Y,j,q2⟩:=S.val L g q;have f:=Qba (k:=flat (.lst ys)) E (by rw[c];exact hU _);obtain⟨a2,l,k1,k2,k3,_⟩:=j.ow i xs f;rw[h1]at k1;cases k1;obtain⟨b,ws,rfl,sb,rb⟩:=q2;refine .inr ⟨a,b,l,ws,rfl,rfl,k2,j.sub.seq sb,?_,?_⟩
   .rw[k3.length,rb.length];exact b8 (aF hl Qv)
   .exact ok _ _ Y (j.write f h1 (k3.append rb))
  .cases e
end
end L2.PM
namespace L2.PM
open PySem PySem.Spec PyProof.Rows PySem.W
def QlF(f:Nat->Nat->(Bool->aC->Prop)->aC->Prop)(lt:Nat->Nat->Bool)(n:Nat)(s:aC):Prop:=∀i j C,i<n->j<n->C (lt i j) s->f i j C s
def QhS(lt:Nat->Nat->Bool)(p:Array Nat)(k:Nat):Prop:=∀a b,a<=b->b<k->lt (p.getD b 0) (p.getD a 0)=false
def sort2{l:Nat->Nat->(Bool->aC->Prop)->aC->Prop}{lt:Nat->Nat->Bool}{s:aC}(f:∀i,lt i i=false)(B:∀i j,lt i j=true->lt j i=false)(an:QlF l lt 2 s){Q:Array Nat->aC->Prop}(fin:∀p,p.Perm (ao 2).toArray->QhS lt p 2->Q p s):(kas_sort 2).kasWp l Q s:=by
 refine an 1 0 _ (by decide) (by decide) ?_;cases h:lt 1 0
 .refine fin #[0,1] (.refl _) λa b D E=>?_;rcases (by lia:a=0/\b=0\/a=0/\b=1\/a=1/\b=1) with⟨rfl,rfl⟩|⟨rfl,rfl⟩|⟨rfl,rfl⟩
  .exact f _
  .exact h
  .exact f _
 .refine fin #[1,0] (Array.perm_iff_toList_perm.mpr (.swap 0 1 [])) λa b D E=>?_;rcases (by lia:a=0/\b=0\/a=0/\b=1\/a=1/\b=1) with⟨rfl,rfl⟩|⟨rfl,rfl⟩|⟨rfl,rfl⟩
  .exact f _
  .exact B _ _ h
  .exact f _
abbrev Tri:=Str×Str×Str
def tri0:Tri:=("","","")
def sLt(a b:Str):Bool:=decide (a.cps.toList<b.cps.toList)
def QeG(h:Heap)(v:Value)(t:Tri):Prop:=∃a o n k1 k2 k3,v = .ref a/\h.get? a=some o/\o.cls = .type "tuple"/\o.data = .seq #[.str t.1 k1,.str t.2.1 k2,.str t.2.2 k3] n
def Tris(h:Heap)(vs:List Value)(f:List Tri):Prop:=vs.length=f.length/\∀i,i<f.length->QeG h (vs.getD i .none) (f.getD i tri0)
def ltT(f:List Tri)(i j:Nat):Bool:=sLt (f.getD i tri0).2.1 (f.getD j tri0).2.1
def Tris.tl(x:Tris h (v::vs) (t::f)):QeG h v t/\Tris h vs f :=
 ⟨x.2 0 (by simp),by have:=x.1;simpa using this,λi j=>x.2 (i+1) (by simpa using j)⟩
section
def tri_lt{v u:Value}{x y:Tri}{C:Bool->aC->Prop}(f:QeG s.heap v x)(l:QeG s.heap u y)(e1:x.1=y.1)(e2:x.2.1=y.2.1->x=y)(h:C (sLt x.2.1 y.2.1) s) :
  aE (model prog w) A (keyLt' (tuples' true) v u) C E s:=by
 obtain⟨a,o,n,k1,k2,k3,rfl,j,_,hd⟩:=f;obtain⟨b,p,m,H,I,J,rfl,B,_,he⟩:=l;refine kat_lt j hd B he ?_;refine kat_cons (ir ?_);rw[a8 e1];refine kat_yes (kat_cons (ir ?_));by_cases c:x.2.1=y.2.1
 .rw[a8 c];have e3:=e2 c;refine kat_yes (kat_cons (ir ?_));rw[a8 (show x.2.2=y.2.2 by rw[e3])];refine kat_yes (kat_nil ?_);have D:sLt x.2.1 y.2.1=false:=by rw[c];exact aX (jJ _)
  rw[D]at h;exact h
 .rw[aX c];exact kat_no (kat_one _ _ (PyProof.Rows.lt_str h))
theorem QcP:∀{vs:List Value}{l:List Tri},Tris h vs l->∃fs,KatTups h vs fs/\fs.length=vs.length/\∀v∈fs,∃x t,v = .str x t
 |[],[],_=>⟨[],.nil,rfl,λ_ h=>nomatch h⟩
 |[],_::_,x=>by have:=x.1;simp at this
 |_::_,[],x=>by have:=x.1;simp at this
 |v::vs,t::l,x=>by
  obtain⟨⟨a,o,n,k1,k2,k3,rfl,j,hc,hd⟩,y⟩:=x.tl;obtain⟨fs,h1,h2,B⟩:=QcP y;refine⟨.str t.1 k1::fs,KatTups.cons j hc hd rfl h1,by simp[h2],λv f=>?_⟩;rcases ap.mp f with rfl | f
  .exact⟨_,_,rfl⟩
  .exact B v f
def Qhe(T:Tris s.heap vs f)(B:∀t∈f,t.1=k)(I:(f.map (·.2.1)).Nodup):QlF (kas_ask prog w A (tuples' true) vs) (ltT f) vs.length s:=by
 intro i j C l hj h;rw[T.1]at l hj;have D:f.getD i tri0=f[i]:=by simp[ l]
 have E:f.getD j tri0=f[j]:=by simp[ hj]
 refine tri_lt (T.2 i l) (T.2 j hj) ?_ (λe=>?_) h
 .rw[D,E,B _ (bi l),B _ (bi hj)]
 .rw[D,E]at e |-;have :=by
   have q:=(List.nodup_iff_pairwise_ne.mp I)
   by_cases c:i=j
   .exact c
   .exfalso;rw[gz]at q;rcases Nat.lt_or_gt_of_ne c with c | c
    .exact q i j (by simpa using l) (by simpa using hj) c (by simpa using e)
    .exact q j i (by simpa using hj) (by simpa using l) c (by simpa using e.symm)
  subst this;rfl
def ltT_laws(f:List Tri):(∀i,ltT f i i=false)/\∀i j,ltT f i j=true->ltT f j i=false :=
 ⟨λi=>aX (jJ _),λi j h=>aX λl=>jJ _ (List.lt_trans (bC h) l)⟩
def Qgg{a:Addr}{vs:List Value}{B:List Tri}{k:Str}{n:Nat}{P:PySem.Fin->aC->Prop}(ho:s.heap.get? a=some (cQ "list" vs.toArray n))(hT:∀O:Heap,(∀b o,b≠a->s.heap.get? b=some o->O.get? b=some o)->Tris O vs B)(hk:∀t∈B,t.1=k)(hn:(B.map (·.2.1)).Nodup)(av:vs.length<3)(h:∀p:Array Nat,p.Perm (ao vs.length).toArray->QhS (ltT B) p vs.length->P (.done (.ret .none)) { s with heap:=sortedHeap s.heap a vs (p.toList.map λi=>vs.getD i de).toArray }) :
  aE (model prog w) A (je.«list.sort» ⟨[.ref a],[]⟩) P E s:=by
 rw[list_sort_plain];have ha:a<s.heap.objs.size:=aD ho;refine ac (listItems_at ho rfl ?_);refine ac (kb ho rfl ?_);obtain⟨e1,D⟩:∃e1,(s.heap.update a (cm λ_ => #[])).get? a=some (cQ "list" #[] e1):=⟨_,get?_update_seq ho (λ_ => #[])⟩
 refine ac (seqEpoch_at D rfl ?_);refine ac (wpAny_newTuple ?_);refine ac (ik ?_);refine cr ?_;have l:(((s.heap.update a (cm λ_ => #[])).push (cQ "tuple" vs.toArray 0)).push (cQ "list" #[] 0)).get? a=some (cQ "list" #[] e1):=af _ (af _ D);have U:=hT (((s.heap.update a (cm λ_ => #[])).push (cQ "tuple" vs.toArray 0)).push (cQ "list" #[] 0)) λb o hb q=>af _ (af _ (by rw[Heap.get?_update_ne _ _ _ _ hb];exact q));show aE (model prog w) A _ P E { s with heap:=((s.heap.update a (cm λ_ => #[])).push (cQ "tuple" vs.toArray 0)).push (cQ "list" #[] 0) };dsimp only;have H:vs.toArray.size=vs.length:=by simp
 have fin:∀(f:SortSt)(p:Array Nat),p.Perm (ao vs.length).toArray->QhS (ltT B) p vs.length->arrOf f=p.map (kas_item (vs.toArray.zip vs.toArray)) ->
   P (.done (.ret .none)) { s with heap:=sortedHeap s.heap a vs ((arrOf f).map (·.2)) }:=λf p h1 h2 h3=>by
  rw[kat_snds rfl h3];exact h p h1 h2
 obtain⟨l1,l2⟩:=ltT_laws B;by_cases h2:vs.toArray.size<2
 .rw[au h2,au h2];refine ac (ag ?_);rw[StateT.run_pure];refine ac (ag ?_);dsimp only;refine ac (seqEpoch_at l rfl ?_);refine ac (kb l rfl ?_ (hsz2:=by rw[eN];show(pairsOf vs).size<=_;rw[pairsOf_size,gs];lia));simp only[i1,eu,iu];refine ag (fin (SortSt.mk' general' (vs.toArray.zip vs.toArray) #[] 7 none) (ao vs.length).toArray (Array.Perm.refl _) (λi j az hj=>?_) ?_)
  .rw[H]at h2;have:i=j:=by lia
   subst this;exact l1 _
  .have e:=kas_range (vs.toArray.zip vs.toArray);rw[show(vs.toArray.zip vs.toArray).size=vs.length by simp]at e;exact e.symm
 .rw[aK h2,aK h2];rw[H]at h2;obtain⟨fs,f1,f2,f3⟩:=QcP U;refine ac (kat_kind (T:=Value.type "str") f1 (by lia) (λv J=>?_) rfl ?_)
  .obtain⟨x,t,rfl⟩:=f3 v J;exact Looks.now
  .rw[show(Value.type "str" != Value.type "tuple")=true from rfl];refine ac (da (kat_run (κ:=tuples' true) (vs:=vs) (ks:=vs) (Q:=λf s'=>s'={ s with heap:=((s.heap.update a (cm λ_ => #[])).push (cQ "tuple" vs.toArray 0)).push (cQ "list" #[] 0) }/\failedOf f=none/\∃p:Array Nat,p.Perm (ao vs.length).toArray/\QhS (ltT B) p vs.length/\arrOf f=p.map (kas_item (vs.toArray.zip vs.toArray)))
    (G:=λp s'=>s'={ s with heap:=((s.heap.update a (cm λ_ => #[])).push (cQ "tuple" vs.toArray 0)).push (cQ "list" #[] 0) }/\p.Perm (ao vs.length).toArray/\QhS (ltT B) p vs.length)
    rfl (by lia) (by lia) (λp f s' _ a2 a3 L=>⟨L.1,a3,p,L.2.1,L.2.2,a2⟩) ?_) ?_ λ_ _ e=>e)
   .have J:vs.length=2:=by lia
    rw[J];exact sort2 l1 l2 (λi j C hi hj=>Qhe U hk hn i j C (by lia) (by lia)) λp I M=>⟨rfl,I,M⟩
   .rintro⟨⟨⟩,f⟩ s' ⟨rfl,hf,p,I,M,Y⟩;dsimp only;have ps:p.size=vs.length:=by rw[I.size_eq];simp
    refine ac (seqEpoch_at l rfl ?_);refine ac (kb l rfl ?_ (hsz2:=by rw[eN,Y,eN,ps,gs];lia));rw[hf];simp only[i1,eu,iu];exact ag (fin f p I M Y)
def QeG.mono(x:QeG h v t)(k:∀b o,h.get? b=some o->o.cls = .type "tuple"->f.get? b=some o):QeG f v t:=by
 obtain⟨a,o,n,k1,k2,k3,e,j,hc,hd⟩:=x;exact⟨a,o,n,k1,k2,k3,e,k a o j hc,hc,hd⟩
def QlV{l:Addr}{vs:List Value}{B:List Tri}{k:Str}{Q:Value->aC->Prop}(hl:s.heap.IsList l vs.toArray)(T:Tris s.heap vs B)(I:∀t∈B,t.1=k)(J:(B.map (·.2.1)).Nodup)(D:vs.length<3)(h:∀p:Array Nat,p.Perm (ao vs.length).toArray->QhS (ltT B) p vs.length->Q (.ref (s.heap.objs.size+1)) { s with heap:=sortedAll s.heap vs (p.toList.map λi=>vs.getD i de).toArray }) :
  aE (model prog w) A (call (.builtin "sorted") [.ref l]) Q E s:=by
 refine hQ kind_sorted plain_sorted entry_sorted (args_sorted1 _) ?_;delta je.«sorted»;refine ac (m:=checkCount "sorted" 1 1 _) (ag ?_);refine ac (collect_list hl ?_);refine ac (ik ?_);have f:((s.heap.push (cQ "list" #[] 0)).update s.heap.objs.size (cm (·++vs.toArray))).objs.size=s.heap.objs.size+1:=by
  rw[Heap.size_update,size_push']
 have L:(((s.heap.push (cQ "list" #[] 0)).update s.heap.objs.size (cm (·++vs.toArray))).push (cQ "list" vs.toArray 0)).get? (s.heap.objs.size+1)=some (cQ "list" vs.toArray 0):=by
  rw[<-f];exact ay _ rfl
 have keep:∀b o,s.heap.get? b=some o->(((s.heap.push (cQ "list" #[] 0)).update s.heap.objs.size (cm (·++vs.toArray))).push (cQ "list" vs.toArray 0)).get? b=some o:=λb o q=>by
  have j:b<s.heap.objs.size:=aD q;exact af _ (by rw[Heap.get?_update_ne _ _ _ _ (aL j)];exact af _ q)
 show aE _ _ _ _ _ { s with heap:=((s.heap.push (cQ "list" #[] 0)).update s.heap.objs.size (cm (·++vs.toArray))).push (cQ "list" vs.toArray 0) };rw[f];refine ac (cr (b5 slot_list_sort ⟨_,L,rfl⟩ mr (Qgg L (λU k=>⟨T.1,λi H=>?_⟩) I J D λp M O=>⟨_,rfl,?_⟩) (args_list_sort _)))
 .refine(T.2 i H).mono λb o q _=>k b o (aL (cp (aD q))) (keep b o q)
 .exact ag ⟨_,rfl,h p M O⟩
end
noncomputable def triV(t:Tri):PV := .tup [.str t.1,.str t.2.1,.str t.2.2]
def tri?:PV->Option Tri
 |.tup [.str a,.str b,.str c]=>some (a,b,c)
 |_=>none
def QjP:List PV->Option (List Tri)
 |[]=>some []
 |x::xs=>(tri? x).bind λt=>(QjP xs).bind λf=>some (t::f)
def tri?_get(h:tri? x=some t):x=triV t:=by
 delta tri? at h;split at h
 .cases h;rfl
 .cases h
theorem Qfh:∀{xs:List PV}{f:List Tri},QjP xs=some f->xs=f.map triV
 |[],_,h=>by cases h;rfl
 |x::xs,f,h=>by
  obtain⟨t,h1,h⟩:=Qb h;obtain⟨j,h2,h⟩:=Qb h;cases h;rw[ba,tri?_get h1,Qfh h2]
theorem Qfg:∀f,QjP (f.map triV)=some f
 |[]=>rfl
 |t::f=>by
  show(tri? (triV t)).bind _=_;rw[show tri? (triV t)=some t from rfl,Qfg f];rfl
def tLe(a b:Tri):Bool:=sLe a.2.1 b.2.1
def Qcu(f:List Tri):List Tri:=f.mergeSort tLe
def Qaa f:(Qcu f).Perm f:=iH _ _
def QhX f:(Qcu f).Pairwise (λa b=>tLe a b=true):=gW (λa b c h1 h2=>QcG a.2.1 b.2.1 c.2.1 h1 h2) (λa b=>Qfn a.2.1 b.2.1) f
abbrev triOk(f:List Tri):Prop:=(∀t∈f,t.1=(f.getD 0 tri0).1)/\(f.map (·.2.1)).Nodup
def nodup_at{f:List Tri}(l:(f.map (·.2.1)).Nodup)(B:a∈f)(D:b∈f)(e:a.2.1=b.2.1):a=b:=by
 induction f with
 |nil=>cases B
 |cons t f j =>
  rw[ba,bO]at l;rcases ap.mp B with h1 | h1<;>rcases ap.mp D with h2 | h2
  .rw[h1,h2]
  .subst h1;exact absurd (aU.mpr ⟨b,h2,e.symm⟩) l.1
  .subst h2;exact absurd (aU.mpr ⟨a,h1,e⟩) l.1
  .exact j l.2 h1 h2
def tsort_eq(B:(f.map (·.2.1)).Nodup)(l:us.Perm f)(D:us.Pairwise (λa b=>tLe a b=true)):us=Qcu f :=
 eU (λx y j E h1 h2=>nodup_at B (l.mem_iff.mp j) ((Qaa f).mem_iff.mp E) (Qeg h1 h2)) D (QhX f) (l.trans (Qaa f).symm)
def QdS:List PV->Option (List PV)
 | [.lst xs]=>match QjP xs with
  |some f=>if f.length<3 then (if triOk f then some ((Qcu f).map triV) else none) else none
  |none=>none
 |_=>none
section
def tri_rep(I:Inv X l Y H s)(B:Same F H)(r:Rep X.K F (triV t) v)(q:RelV v u):QeG s.heap u t:=by
 obtain⟨a,vs,rfl,k2,k3⟩:=r;cases q;have e3 :=YS (ns:=[t.1,t.2.1,t.2.2]) k3;subst e3;obtain⟨j,f,⟨o,D,E,n,J⟩,_⟩:=I.tuple (B.seqT k2);cases f with
 | cons L f=>cases f with
  | cons M f=>cases f with
   |cons O f =>
    cases f;obtain⟨t1,rfl⟩:=L;obtain⟨T,rfl⟩:=M;obtain⟨U,rfl⟩:=O;exact⟨a,o,n,t1,T,U,rfl,D,E,by rw[J]⟩
theorem QhY(I:Inv X l O H s)(B:Same F H):∀{f:List Tri}{vs:List V}{us:List Value},RepL X.K F (f.map triV) vs->Vals vs us->Tris s.heap us f
 |[],vs,us,r,q=>by
  subst r;cases q;exact⟨rfl,λi j=>by simp at j⟩
 |t::f,vs,us,r,q=>by
  obtain⟨v,T,rfl,E,J⟩:=r;cases q with
  |cons L M =>
   have D:=QhY I B J M;refine⟨by simp[D.1],λi j=>?_⟩;cases i with
   |zero=>exact tri_rep I B E L
   |succ i=>exact D.2 i (by simpa using j)
theorem QkF{K:aa}:∀{f:List Tri}{vs:List V},RepL K F (f.map triV) vs->vs.length=f.length/\∀i,i<f.length->Rep K F (triV (f.getD i tri0)) (vs.getD i .non)
 |[],vs,r=>by
  subst r;exact⟨rfl,λi j=>by simp at j⟩
 |t::f,vs,r=>by
  obtain⟨v,E,rfl,B,D⟩:=r;have l:=QkF D;refine⟨by simp[l.1],λi j=>?_⟩;cases i with
  |zero=>exact B
  |succ i=>exact l.2 i (by simpa using j)
theorem Qfp{K:aa}{f:List Tri}{vs:List V}(r:∀i,i<f.length->Rep K F (triV (f.getD i tri0)) (vs.getD i .non)):∀{p:List Nat},(∀i∈p,i<f.length)->RepL K F ((p.map λi=>f.getD i tri0).map triV) (p.map λi=>vs.getD i .non)
 |[],_=>by grind[RepL]
 |i::p,h=>by
  exact⟨_,_,rfl,r i (h i bB),Qfp r λj hj=>h j (ax _ hj)⟩
theorem Qfe(r:Vals vs us):∀{p:List Nat},(∀i∈p,i<us.length)->Vals (p.map λi=>vs.getD i .non) (p.map λi=>us.getD i .none)
 |[],_=>.nil
 |i::p,h=>by
  refine .cons ?_ (Qfe r λj hj=>h j (ax _ hj));have f:=h i bB;clear h;induction r generalizing i with
  |nil=>simp at f
  | cons q r l=>cases i with
   |zero=>exact q
   |succ i=>exact l i (by simpa using f)
def co_sortedTT:QhT X (.builtin "sorted") QdS:=by
 intro U s σ H vs us Q I rs h;obtain⟨F,ps,r,h1,h2,f,w⟩:=h;delta QdS at f;split at f
 .obtain⟨v,t,rfl,h2,ht⟩:=h2;subst ht;obtain⟨a,ws,rfl,k2,k3⟩:=h2;obtain⟨u,rfl,ru⟩:=Yq rs;cases ru;obtain⟨B,Y,pl,_⟩:=I.list (h1.seq k2);split at f
  .rename_i l E;obtain⟨c,f⟩:=Xe f;obtain⟨J,f⟩:=Xe f;cases f;have e2:=Qfh E;subst e2;have T:=QhY I h1 k3 Y;have R:=QkF k3;refine QlV pl.isList T J.1 J.2 (by rw[T.1];exact c) λp L q2=>?_;rw[T.1]at L q2;have pp :=by
    have:=Array.perm_iff_toList_perm.mp L;simpa using this
   have pm:∀i∈p.toList,i<l.length:=λi D=>a7.mp (pp.mem_iff.mp D);have ps:p.size=l.length:=by rw[L.size_eq];simp
   have eo:(p.toList.map λi=>l.getD i tri0)=Qcu l:=by
    refine tsort_eq J.2 ?_ ?_
    .have e:=pp.map λi=>l.getD i tri0;have e':(ao l.length).map (λi=>l.getD i tri0)=l:=by
      apply gY
      .simp
      .intro i h1 h2;simp[ h2]
     rw[e']at e;exact e
    .rw[i9,gz];intro i j D hj M;have q:=q2 i j (b8 M) (by rw[<-ps];simpa using hj);have gi:p.getD i 0=p.toList[i]:=by
      have :=by simpa using D
      simp[ this]
     have gj:p.getD j 0=p.toList[j]:=by
      have :=by simpa using hj
      simp[ this]
     rw[gi,gj]at q;delta tLe sLe;delta ltT sLt at q;rw[q];rfl
   obtain⟨k,he⟩:=sortedAll_at s.heap B (p.toList.map λi=>B.getD i de).toArray;have O :=I.hok.fresh (dy _);refine⟨.ref (s.heap.objs.size+1),upd H (s.heap.objs.size+1) (.lst (p.toList.map λi=>ws.getD i .non)),I.laid (λb o q=>sortedAll_old q) (dy _) ⟨?_,(p.toList.map λi=>B.getD i de),k,Qfe Y (λi D=>by rw[T.1];exact pm i D),?_⟩,rfl,?_⟩
   .rw[ai,bQ,ps];exact b8 (ft c (by decide))
   .simpa[cQ] using he
   .refine w _ (p.toList.map λi=>ws.getD i .non) _ F (.side h1 O) O (h1.free O) Qf ?_;rw[<-eo];exact Qfp R.2 pm
  .cases f
 .cases f
end
section
def Qgm(hl:s.heap.get? l=some o)(hc:o.cls = .type "tuple")(hd:o.data = .seq vs.toArray n)(hz:vs.length<64)(h:Q vs { s with heap:=(s.heap.push (cQ "list" #[] 0)).update s.heap.objs.size (cm (·++vs.toArray)) }):aE (model prog w) A (collect (.ref l)) Q E s:=by
 refine ac (gN (cY entry_proto_collect' ?_));refine ac (ik (ag ⟨jz _ (by decide+kernel),cY entry_list_iadd' ?_⟩));show aE _ _ (eR (.ref s.heap.objs.size) (.ref l) (.ref s.heap.objs.size)) _ _ { s with heap:=s.heap.push (cQ "list" #[] 0) };have q:(s.heap.push (cQ "list" #[] 0)).get? l=some o:=af _ hl;have z:(s.heap.push (cQ "list" #[] 0)).get? s.heap.objs.size=some (cQ "list" #[] 0):=ay _ rfl;refine ac (iA ⟨o,q,hc⟩ ?_);rw[au (by simp)];refine ac (listItems_at q hd (ac (listItems_at z rfl ?_)));refine ac (kb z rfl (ag ?_) (cG _) (by simp;rw[gs];lia));refine ac (kD (get?_update_seq z _) ?_);exact ag (by simpa using h)
def Qhk(hl:s.heap.get? l=some o)(hc:o.cls = .type "tuple")(hd:o.data = .seq vs.toArray n)(I:jV vs ss)(B:vs.length<64)(h:∀D f,jV D.toList f->f.Perm ss->sortedS f=true->Q (.ref (s.heap.objs.size+1)) { s with heap:=sortedAll s.heap vs D }) :
  aE (model prog w) A (call (.builtin "sorted") [.ref l]) Q E s:=by
 refine hQ kind_sorted plain_sorted entry_sorted (args_sorted1 _) ?_;refine ac (ag (ac (Qgm hl hc hd B (ac (ik ?_)))));have j:((s.heap.push (cQ "list" #[] 0)).update s.heap.objs.size (cm (·++vs.toArray))).objs.size=s.heap.objs.size+1:=by rw[Heap.size_update,size_push']
 have L:(((s.heap.push (cQ "list" #[] 0)).update s.heap.objs.size (cm (·++vs.toArray))).push (cQ "list" vs.toArray 0)).get? (s.heap.objs.size+1)=some (cQ "list" vs.toArray 0):=by
  rw[<-j];exact ay _ rfl
 rw[j];refine ac (cr (b5 slot_list_sort ⟨_,L,rfl⟩ mr (list_sort_treeK strKind_oneLt L I.keysOf (λH J rest e=>keyKind_strs (by rw[<-e];exact I)) B λM O T=>⟨_,rfl,ag ⟨_,rfl,?_⟩⟩) (args_list_sort _)));obtain⟨f,U,Y,b3⟩:=sorted_out_str I O T;exact h _ f U Y b3
end
def QgT:List PV->Option (List PV)
 | [.tup xs]=>match strs? xs with
  |some ss=>if ss.length<64 then some ((QA ss).map .str) else none
  |none=>none
 |ps=>QeF ps
section
set_option tactic.hygienic true in
def co_sortedA:QhT X (.builtin "sorted") QgT:=by
 intro l s O H vs us Q I rs h;obtain⟨F,ps,r,h1,h2,j,w⟩:=h;delta QgT at j;split at j
 .obtain⟨v,t,rfl,h2,T⟩:=h2;subst T;obtain⟨a,ws,rfl,k2,k3⟩:=h2;obtain⟨u,rfl,U⟩:=Yq rs;cases U;obtain⟨D,L,⟨o,Y,o2,n,o3⟩,_⟩:=I.tuple (h1.seqT k2);split at j
  .rename_i ss E;obtain⟨c,rfl⟩:=Qi j;have e2:=XB E;subst e2;have e3:=YS k3;subst e3;have hl:=L.length;rw[ai]at hl;refine Qhk Y o2 o3 (Yy L) (by lia) λB f a1 M a3=>?_;have e4:=Xd M (YD _ a3);obtain⟨k,he⟩:=sortedAll_at s.heap D B;have J :=I.hok.fresh (dy _);refine⟨.ref (s.heap.objs.size+1),upd H (s.heap.objs.size+1) (.lst (f.map V.str)),I.laid (λb o q=>sortedAll_old q) (dy _) ⟨?_,B.toList,k,QcB a1,?_⟩,rfl,?_⟩
   .rw[ai,M.length_eq];exact b8 (ft c (by decide))
   .simpa[cQ] using he
   .rw[<-e4]at w;exact w _ (f.map V.str) _ F (.side h1 J) J (h1.free J) Qf (Yz f)
  .cases j
 .exact co_sorted l s O H vs us Q I rs ⟨F,_,r,h1,h2,j,w⟩
end
end L2.PM
namespace L2.PM
open PySem PySem.Spec PyProof.Rows
section
def ins_args(f:EM X ns k mk)(he:EM X ms e m)(h1:ah [k,e] X.env=(false,eval k X.env)::ah [e] X.env:=by rfl)(h2:ah [e] X.env=(false,eval e X.env)::ah [] X.env:=by rfl) :
  PA X [k,e] (QjQ (tM X.K ns mk) (QjQ (tM X.K ms m) tNil)):=ZK f (ZK he Qav h2) h1
def sm_ins2(hx:PE X (.Name x p2) (tVar i))(ps:PS X (.Expr (.Call (.Attribute (.Name x p2) "insert" f) [k,e] [] l) I) (Qhg (tBM X.K "list" QkH (tVar i) (QjQ (tM X.K ns mk) (QjQ (tM X.K ms m) tNil))))) :
  SM X (.Expr (.Call (.Attribute (.Name x p2) "insert" f) [k,e] [] l) I) (sIns ms i mk m):=PS.imp ps λD σ H zz=>by
 obtain⟨B,O,F,T,o,S,e,ok⟩:=zz;delta sIns at e;split at e
 .rename_i xs U;obtain⟨j0,e0,e'⟩:=Qb e;obtain⟨r,e1,e2⟩:=Qb e';cases j0 with
  |int j =>
   have e3 :=e2;obtain⟨⟨c0,c1,c2,c⟩,rfl⟩:=Qi e3;obtain⟨a,vs,h1,h2,_⟩:=S.ow i xs U;obtain⟨F1,Y,x1,er⟩:=S.see ns;refine⟨.ref a,h1,QbT (.of h2),F1,T,.int j,Y.sub,er,e0,λv0 H' F' g q0=>?_⟩;obtain⟨F2,S2,q2⟩:=S.val Y g q0;subst q0;obtain⟨F3,S3,x3,J⟩:=S2.see ms;refine⟨F3,T,r,S3.sub,J,e1,λv H2 F4 g2 q=>?_⟩;obtain⟨F5,S5,q5⟩:=S2.val S3 g2 q;have E:=Qba U c;obtain⟨a2,L,k1,k2,k3,_⟩:=S5.ow i xs E;rw[h1]at k1;cases k1;have M :=k3.length;refine⟨a,L,v,j,rfl,rfl,k2,c0,by grind,?_,by grind,?_⟩
   .rw[M];exact iQ c2 (by decide)
   .exact ok _ _ F5 (S5.write E h1 ((k3.take _).append (.cons q5 (k3.drop _))))
  |_=>cases e2
 .cases e
end
end L2.PM
namespace L2
open PySem PySem.Spec PySem.Calls PyProof.Rows PySem.W PySem.Builtin PySem.Builtin.ObjectAttr PySem.Builtin.Getset_descriptor
structure XCl (K:aa) (D:Addr):Prop where
 ga:jf K (.ref D) "__getattribute__"=some (some (.builtin "BaseException.__getattribute__"))
 gn:jf K (.ref D) "__getattr__"=some none
 be:mq K D (.type "BaseException")=some true
 ob:mq K D (.type "object")=some true
 cl:jf K (.ref D) "__class__"=some (some (.builtin "object.__class__"))
 gg:specialIn K (.builtin "object.__class__") "__get__"=some (some (.builtin "getset_descriptor.__get__"))
 tk:takesIn K (.builtin "object.__class__")=some true
def OfC(x D:Addr)(h:Heap):Prop:=∃f,h.get? x=some f/\f.cls = .ref D
section
def OfC.type(I:OfC x D h):Looks M h (typeOf (.ref x)) (.ref D):=by
 obtain⟨f,h1,h2⟩:=I;exact h2▸(Looks.ld h1).andThen .now
def xc_check{s:aC}{K:aa}{f:Value}{Q:Unit->aC->Prop}(X:K.In s.heap)(I:OfC x D s.heap)(C:XCl K D)(l:Q () s):aE M A (checkBuiltinCall "BaseException.__getattribute__" ⟨[.ref x,f],[]⟩) Q E s:=by
 have j:builtinKind "BaseException.__getattribute__"=some .slot:=by decide+kernel
 have sp:splitId "BaseException.__getattribute__"=some ("BaseException","__getattribute__"):=by decide+kernel
 have L:Looks M s.heap (kJ (.ref x) (.type "BaseException")) true:=(OfC.type (M:=M) I).andThen (kv X C.be);obtain⟨h,g,d,t,os⟩:=s;simp only[checkBuiltinCall,j,sp];refine ac (Looks.at L ?_);repeat (any_goals (first | assumption | wp_step))
def xc_find{K:aa}(X:K.In h)(C:XCl K D):Looks M h (je.ObjectAttr.find (.ref x) (.ref D) "__class__") (.bind (.builtin "getset_descriptor.__get__") (.builtin "object.__class__")) :=
 (mJ X C.cl).andThen ((looks_specialIn X C.gg).andThen ((show Looks M h (je.ObjectAttr.dataDescriptor? (some (.builtin "object.__class__")) (some (.builtin "getset_descriptor.__get__"))) (some (_,_)) from(looks_takesIn X C.tk).andThen .now).andThen (Looks.tag .now)))
def QjW{K:aa}(h:mq K c b=some r):(clsIn K c).isSome=true:=by
 obtain⟨f,hc,_⟩:=Option.bind_eq_some_iff.mp h;rw[hc];rfl
def xc_get{s:aC}{K:aa}(X:K.In s.heap)(I:OfC x D s.heap)(C:XCl K D)(f:R (.ok (.ret (.ref D))) s):fC (model prog w) A (.call (.builtin "getset_descriptor.__get__") ⟨[.builtin "object.__class__",.ref x,.ref D],[]⟩) R s:=by
 have L:=OfC.type (M:=model prog w) I;have j:=kv (M:=model prog w) X C.ob;obtain⟨h,g,d,t,os⟩:=s;exact i0 KF.slot_gs.plain KF.entry_gs (KF.slot_gs.check _ _ _ _ _ _ _ _ KF.type_class (KF.args_gs _ _ _) (by
  refine ac (ag ?_);delta descrGetter descrCheckInstance descrNameAndClass kJ;simp only[KF.owner_class];repeat lk
  exact⟨jz _ (by decide+kernel),cY KF.entry_class (by (repeat lk);exact f)⟩))
def xc_class{s:aC}{K:aa}{Q:Option Value->aC->Prop}(X:K.In s.heap)(I:OfC x D s.heap)(C:XCl K D)(l:Q (some (.ref D)) { s with toks:=s.toks+1 }):aE (model prog w) A (getAttr? (.ref x) "__class__") Q E s:=by
 have L:=OfC.type (M:=model prog w) I;have f:=mJ (M:=model prog w) X C.ga;have L2:=mJ (M:=model prog w) X C.gn;have j:=xc_find (M:=model prog w) (x:=x) X C;obtain⟨h,g,d,t,os⟩:=s;have B:=F.attr_ValueError.ga.bind (.ref x);refine ac (wpAny_mkText (ac (im ?_)));refine cr (ac (Looks.at L (ac (Looks.at f ?_))));repeat (any_goals (first | assumption | with_reducible refine Looks.at L2 ?_ | with_reducible refine Looks.at L ?_ | wp_step))
 refine i0 F.attr_ValueError.ga.plain F.entry_bexc_ga (xc_check X I C ?_);repeat (any_goals (first | assumption | with_reducible refine Looks.at j ?_ | with_reducible refine Looks.at L ?_ | wp_step))
 refine xc_get X I C ?_;repeat (any_goals (first | assumption | wp_step))
def Qiw{K:aa}(C:XCl K D):KitX K (.ref x) (.ref D) (OfC x D) where
 ty:=λ_ _ _ I=>I.type
 it:=λ_ _ X _=>by
  obtain⟨l,hc⟩:=cK.mp (QjW C.be);delta clsIn at hc;split at hc
  .rename_i f;exact λE H J s' k q=>by
    exact ac (wpAny_loadPart (k _ _ (X _ _ f)) (ag q))
  .cases hc
 ne:=λh L dd B n M X j=>by
  obtain⟨l,hc⟩:=cK.mp (QjW C.be);refine Bool.eq_false_iff.mpr λq=>?_;cases (cR.inj (bg.mp q));delta clsIn at hc;split at hc
  .rename_i f;cases (X _ _ f).symm.trans j
  .cases hc
 ca:=λX I k=>xc_class X I C k
def QmJ{s:aC}{K:aa}{C:Addr}{b:Bool}{Q:Bool->aC->Prop}(X:K.In s.heap)(I:OfC x C s.heap)(l:XCl K D)(B:typeIn K (.ref D)=some (.type "type"))(J:mq K C (.ref D)=some b)(L:Q b s):aE M A (excMatches (.ref x) (.ref D)) Q E s:=by
 have j:=OfC.type (M:=M) I;have H:=looks_typeIn (M:=M) X B;have L2:=kv (M:=M) X J;have O:=kv (M:=M) X l.be;have U:=(Qiw (x:=x) (K:=K) l).it M s.heap X;have f:=tc_notTuple;obtain⟨Y,hc⟩:=cK.mp (QjW l.be);delta clsIn at hc;split at hc
 .rename_i T;have e1:=X _ _ T;obtain⟨h,g,d,t,os⟩:=s;delta excMatches kJ;repeat (first | with_reducible refine Looks.at j ?_ | with_reducible refine Looks.at H ?_ | with_reducible refine Looks.at L2 ?_ | with_reducible refine Looks.at O ?_ | with_reducible refine wpAny_loadPart_at e1 ?_ | wp_step)
  cases b<;>(repeat (first | wp_step))<;>exact L
 .cases hc
end
end L2
namespace L2
open PySem PySem.Spec PySem.Calls PyProof.Rows PySem.W
structure FlyO (B:Heap) (l:List Env) (e:Addr) (cls:Value) (d:Option Addr) (fl:Value) (h:Heap):Prop where
 stay:B.StaysIn h
 new:B.get? e=none
 fun_:h.FunFrames B l
 at_:∃oe vs T oT ts,h.get? e=some oe/\oe.cls=cls/\oe.dict=d/\oe.data = .fields vs/\vs[1]?=some (.ref T)/\B.get? T=none/\T≠e/\h.get? T=some oT/\oT.data = .fields ts/\ts[3]?=some fl
def FlyO.obj(x:FlyO B l e cls d fl h):∃f vs,h.get? e=some f/\f.cls=cls/\f.dict=d/\f.data = .fields vs :=
 by obtain⟨f,vs,_,_,_,h1,h2,j,D,_⟩:=x.at_;exact⟨f,vs,h1,h2,j,D⟩
def FlyO.tail(x:FlyO B (env::l) e cls d fl h):FlyO B l e cls d fl h:=⟨x.stay,x.new,x.fun_.2.2,x.at_⟩
def Qdq f o:(gk f o).dict=o.dict:=by
 obtain⟨c,d,j,l⟩:=o;cases j<;>rfl
section
def QgI(x:FlyO B l e cls d fl s.heap)(U:∀D,FlyO B l e cls d .none D->s.heap.UpToSlots D->Q () { s with heap:=D }):aE M A (lM (.ref e) none) Q E s:=by
 obtain⟨Y,vs,T,oT,ts,k1,k2,k3,J,k5,k6,L,O,H,av⟩:=x.at_;have z:3<ts.size:=(by grind)
 have oth:∀b,b≠T->(s.heap.update T (gk (·.setIfInBounds 3 de))).get? b=s.heap.get? b:=by grind[bK]
 have f:∀b o,s.heap.get? b=some o->(∀ws,o.data≠.fields ws)->b≠T:=by grind
 refine ac (dQ k1 J k5 ?_);refine cS O H z (U _ ⟨λb o q=>(oth b λw=>by grind).trans (x.stay b o q),x.new,x.fun_.of_keeps λb o j I=>⟨o,(oth b (f b o j I)).trans j,rfl⟩,?_⟩ λb o j I=>⟨o.slots,(oth b (f b o j I)).trans j⟩);exact⟨Y,vs,T,_,_,(oth e L.symm).trans k1,k2,k3,J,k5,k6,L,dC _ O (eO (dX H _)),dX H _,by simp[z]⟩
def QfG{A:dm}{s:aC}{B:Heap}{head:Value}{Y:Obj}{vs:Array Value}{hn:Bool}(av:A.frames=some (env::outer))(hf:env.frame=some L)(st:B.StaysIn s.heap)(new:B.get? e=none)(fu:s.heap.FunFrames B (env::outer))(he:s.heap.get? e=some Y)(hd:Y.data = .fields vs)(hz:1<vs.size)(hq:∀h',FlyO B (env::outer) e Y.cls Y.dict (bP L) h'->s.heap.UpToSlots h'->Q () { s with heap:=h' }) :
  aE M A (frameOf env >>= λa=>entryPlaceOf L hn >>= λI=>EntryCells.newEntry head a .none (bP L) .none I >>= λb=>mH (.ref e) 1 b) Q E s:=by
 have nf:e∉(env::outer).filterMap (·.frame):=λhm=>by
  obtain⟨_,o,f,j⟩:=fu.mem hm;rw[he]at f;cases f;exact j _ hd
 refine ac (wpAny_frameOf_fun av fu hf λh1 so=>ac (wpAny_entryPlaceOf λI ip=>?_));refine ac (bU ?_ (ip.sizeOk5 _ _ _ _ _));have H :=(so.2.1 e nf).trans he;have J:B.StaysIn h1:=λb o q=>(so.2.1 b λhm=>by rw[(fu.mem hm).1]at q;cases q).trans (st b o q);generalize az:({ cls := .type "traceback",dict:=none,data := .fields ([head,.ref L,.none,bP L,.none]++(if I.isEmpty then bS 6 de else I)).toArray }:Obj)=ne;have l:ne.data = .fields ([head,.ref L,.none,bP L,.none]++(if I.isEmpty then bS 6 de else I)).toArray:=by rw[<-az]
 have aq :=eO l;have O:=af ne H;have lt:=aD H;refine cS O hd hz (hq _ ?_ ?_);all_goals
  have D:∀b o,s.heap.get? b=some o->(∀ws,o.data≠.fields ws)->b≠e:=λb o f j T=>by
   subst T;rw[he]at f;cases f;exact j _ hd
  have keep:∀b o,b≠e->h1.get? b=some o->((h1.push ne).update e (gk (·.setIfInBounds 1 (cR h1.objs.size)))).get? b=some o:=λb o f j=>by
   rw[bK _ _ f.symm];exact af _ j
 .have U:=dX hd (·.setIfInBounds 1 (cR h1.objs.size));refine⟨λb o q=>keep b o (λw=>by subst w;rw[new]at q;cases q) (J b o q),new,fu.of_keeps λb o f j=>?_,?_⟩
  .obtain⟨sl,T⟩:=so.2.2 b o f;exact⟨_,keep b _ (D b o f j) T,rfl⟩
  .refine⟨_,_,h1.objs.size,ne,_,dC _ O (eO U),Obj.cls_mapFields _ _,Qdq _ _,U,by simp[hz],J.fresh,f8 lt,?_,l,?_⟩
   .rw[bK _ _ (aL lt)];exact ay h1 aq
   .rcases ip with rfl|⟨_,_,_,_,_,_,_,rfl⟩<;>simp
 .intro b o f j;obtain⟨sl,T⟩:=so.2.2 b o f;exact⟨sl,keep b _ (D b o f j) T⟩
def QgB{L:Addr} e env (hf:env.frame=some L):fZ e env=field e 1 >>= λhead=>(if head != .none then field head 3 >>= λx=>if x==bP L then pure true else mH head 3 .none >>= λ_=>pure false else pure false) >>= λr=>if r=true then pure () else
  frameOf env >>= λa=>entryPlaceOf L (head != .none) >>= λl=>EntryCells.newEntry head a .none (bP L) .none l >>= λb=>mH e 1 b:=by
 delta fZ;rw[hf];simp only[mM];congr 1;funext head;split
 .simp only[mM];congr 1;funext x;split
  .rfl
  .simp only[mM];rfl
 .rfl
def QmI{M:Model}{A:dm}{E:Value->aC->Prop}{s:aC}{B:Heap}{outer:List Env}{L:Addr}{e:Addr}{f:Obj}{vs:Array Value}{Q:Unit->aC->Prop}(l:A.frames=some (env::outer))(hf:env.frame=some L)(st:B.StaysIn s.heap)(new:B.get? e=none)(I:s.heap.FunFrames B (env::outer))(he:s.heap.get? e=some f)(hd:f.data = .fields vs)(h1:vs[1]?=some .none)(J:∀D,FlyO B (env::outer) e f.cls f.dict (bP L) D->s.heap.UpToSlots D->Q () { s with heap:=D }):aE M A (fZ (.ref e) env) Q E s:=by
 rw[QgB _ _ hf];refine ac (dQ he hd h1 ?_);refine ac (ag ?_);exact QfG l hf st new I he hd (by grind) J
def QiF{M:Model}{A:dm}{E:Value->aC->Prop}{s:aC}{B:Heap}{outer:List Env}{L:Addr}{e:Addr}{cls:Value}{d:Option Addr}{Q:Unit->aC->Prop}(l:A.frames=some (env::outer))(hf:env.frame=some L)(x:FlyO B (env::outer) e cls d .none s.heap)(Y:∀f,FlyO B (env::outer) e cls d (bP L) f->s.heap.UpToSlots f->Q () { s with heap:=f }):aE M A (fZ (.ref e) env) Q E s:=by
 obtain⟨oe,vs,T,oT,ts,k1,rfl,rfl,J,k5,k6,k7,O,U,D⟩:=x.at_;rw[QgB _ _ hf];refine ac (dQ k1 J k5 ?_);refine ac (ac (dQ O U D ?_));refine ac (cS O U (by grind) (ag ?_));have oth:∀b,b≠T->(s.heap.update T (gk (·.setIfInBounds 3 de))).get? b=s.heap.get? b:=by grind[bK]
 have j:∀b o,s.heap.get? b=some o->(∀ws,o.data≠.fields ws)->b≠T:=by grind
 refine QfG l hf (λb o q=>(oth b λw=>by grind).trans (x.stay b o q)) x.new (x.fun_.of_keeps λb o H I=>⟨o,(oth b (j b o H I)).trans H,rfl⟩)
  (by grind) J (by grind) λf y u=>Y f y λb o H I=>u b o (by grind) I
end
structure FlyX (P:aY) (w:cf) (outer:List Env) (H:Hp) (h0:Heap) (H':Hp) (B:Heap) (e C:Addr) (d:Option Addr) (h:Heap):Prop where
 fl:FlyO B outer e (.ref C) d .none h
 ok:HOk P w H' B
 keep:∀b o,h0.get? b=some o->H b=none->b∉frs outer->B.get? b=some o
 there:∀b o,h0.get? b=some o->b∉frs outer->∃o',B.get? b=some o'
 slot:∀b o,h0.get? b=some o->H b=none->b∈frs outer->∃sl,h.get? b=some { o with slots:=sl }
 free:∀b o,h0.get? b=some o->H b=none->H' b=none
 tups:∀b xs,H b=some (.tup xs)->H' b=some (.tup xs)
 frzs:∀b o u,H b=some (.frz o u)->H' b=some (.frz o u)
 tbls:∀b ps,H b=some (.tbl ps)->∃more,H' b=some (.tbl (ps++more))
def CX2(P:aY)(w:cf):CXT:=λouter H s E e s'=>∃a C d f B,e = .ref a/\s'.os=s.os/\iU s'.gens/\FlyX P w outer H s.heap f B a C d s'.heap/\E (.ref C) d f
def ObjOk.there(x:ObjOk P w H h a o):∃ob,h.get? a=some ob:=by
 cases o with
 |lst xs=>obtain⟨_,_,_,_,e⟩:=x;exact⟨_,e⟩
 |tup xs=>obtain⟨_,_,_,ob,e,_⟩:=x;exact⟨_,e⟩
 |set S n=>obtain⟨o,_,_,_,e,_⟩:=x;exact⟨_,e⟩
 |ins C l fs=>obtain⟨_,_,_,e,_⟩:=x;exact⟨_,e⟩
 |own y=>exact x
 |xd fs=>obtain⟨_,⟨_,_,_,e,_⟩,_⟩:=x;exact⟨_,e⟩
 |rng lo B=>obtain⟨_,_,_,e⟩:=x;exact⟨_,e⟩
 |frz ob u=>obtain⟨e,_⟩:=x;exact⟨_,e⟩
 |tbl ps=>exact⟨_,(x)⟩
 |met f y=>exact⟨_,(x)⟩
 |ext D=>obtain⟨_,e,_⟩:=x;exact e
 |_=>obtain⟨_,_,_,_,o,_,_,e,_⟩:=x;exact⟨_,e⟩
section
def FlyX.un(F:FlyX P w outer H h0 l B e C d h)(hf:∀b∈frs outer,H b=none):Un (frs outer) [] H l h0 h where
 keep:=λb o q n f _=>F.fl.stay b o (F.keep b o q n f)
 slot:=λb o q n f _=>F.slot b o q n f
 free:=λb o q n _=>F.free b o q n
 there:=λb o q _=>by
  by_cases f:b∈frs outer
  .obtain⟨D,z⟩:=F.slot b o q (hf b f) f;exact⟨_,z⟩
  .obtain⟨j,z⟩:=F.there b o q f;exact⟨j,F.fl.stay b j z⟩
 tups:=F.tups
 frzs:=F.frzs
 tbls:=F.tbls
def FlyX.hok(F:FlyX P w outer H h0 f B e C d h):HOk P w f h:=F.ok.kept F.fl.stay
def FlyX.on(F:FlyX P w outer H h0 D B e C d h)(fl:FlyO B outer e (.ref C) d .none f)(u:h.UpToSlots f):FlyX P w outer H h0 D B e C d f :=
 ⟨fl,F.ok,F.keep,F.there,λb o q n j=>by
  obtain⟨J,z⟩:=F.slot b o q n j;obtain⟨_,L,l,E⟩:=F.fl.fun_.mem j;rw[z]at l;cases l;obtain⟨I,M⟩:=u b _ z E;grind,F.free,F.tups,F.frzs,F.tbls⟩
def FlyX.new(F:FlyX P w outer H h0 f B e C d h):f e=none:=by
 cases q:f e with
 |none=>rfl
 |some o =>
  obtain⟨ob,z⟩:=(F.ok e o q).there;rw[F.fl.new]at z;cases z
end
def del(H:Hp)(a:Addr):Hp:=λb=>if b=a then none else H b
theorem QbR(h:b≠a):del H a b=H b:=aK h
theorem del_at:del H a a=none:=au rfl
section
def Qhp{P:aY}{K:aa}{A:dm}{s:aC}{s2:aC}{ob:Obj}{G:Prop}(I:Inv (cxOf (CX2 P w) P w K mg base N qual scope f J A outer s H E) bq σ Y s2)(bJ:s2.heap.get? a=some ob)(hc:ob.cls = .ref C)(av:ob.dict=d)(bZ:ob.data = .fields vs)(h1:vs[1]?=some .none)(new:s.heap.get? a=none)(hx:∀o,Y a=some o->∃φ,o = .ext φ)(hE:E (.ref C) d (del Y a))(k:∀B,(A.deeper (cM qual scope s.heap.objs.size f J)).frames=some (cM qual scope s.heap.objs.size f J::outer)->B.StaysIn s2.heap->B.get? a=none->s2.heap.FunFrames B (cM qual scope s.heap.objs.size f J::outer) ->
   (∀l,FlyO B outer a ob.cls ob.dict .none l->s2.heap.UpToSlots l->CX2 P w outer H s E (.ref a) { s2 with heap:=l })->G):G:=by
 generalize D:cxOf (CX2 P w) P w K mg base N qual scope f J A outer s H E=X at I;have L:X.stack=cM qual scope s.heap.objs.size f J::outer:=by rw[<-D];rfl
 have az:X.outer=outer:=by rw[<-D];rfl
 have aq:X.A.frames=some X.stack:=I.ok.frames;have hA:X.A=A.deeper (cM qual scope s.heap.objs.size f J):=by rw[<-D];rfl
 have hL:X.env.locals=s.heap.objs.size:=by rw[<-D];rfl
 have M:X.s₀=s:=by rw[<-D];rfl
 have aj:X.H₀=H:=by rw[<-D];rfl
 have hex:X.ex=[]:=by rw[<-D];rfl
 have hp:X.prog=P:=by rw[<-D];rfl
 have hw:X.w=w:=by rw[<-D];rfl
 have ak:X.fs=frs outer:=by grind
 generalize aJ:frs (cM qual scope s.heap.objs.size f J::outer)=as;have cv:∀env∈X.stack,∀b,env.frame=some b->b∈a::as:=λenv he b j=>by
  rw[<-aJ];rw[L]at he;exact .tail _ (bw.mpr ⟨env,he,j⟩)
 have aZ:∀b∈as,Y b=none:=λb j=>I.stkFree b (by grind);have O:∀b∈as,b=s.heap.objs.size\/b∈frs outer:=λb j=>by
  have:=I.stkSub b (by grind);grind
 have T:∀b o,s.heap.get? b=some o->b∉frs outer->b∉a::as:=λb o q nb j=>by
  rcases ap.mp j with z | j
  .grind
  rcases O b j with z | z
  .exact absurd (aD q) (by grind)
  grind
 have bj:=I.stack;rw[L]at aq;have bv:s2.heap.FunFrames (js s2.heap (a::as)) (cM qual scope s.heap.objs.size f J::outer):=by grind[PySem.W.funFrames_hide]
 refine k (js s2.heap (a::as)) (by grind) (λb o q=>lA _ q) (kQ _ (.head _)) bv λl x1 x4=>?_;rw[hc,av]at x1;have base:=I.base;rw[M,aj,ak,hex]at base;have na:∀b o,s.heap.get? b=some o->b≠a:=λb o q z=>by grind
 refine⟨a,C,d,del Y a,_,rfl,?_,I.bare,⟨x1,?_,λb o q n j=>?_,λb o q j=>?_,λb o q n j=>?_,λb o q n=>?_,λb xs q=>?_,λb o u q=>?_,λb ps q=>?_⟩,hE⟩
 .show s2.os=_;rw[<-M];exact I.os
 .intro c o q;have hk:=I.hok;rw[hp,hw]at hk;have bz:c≠a:=λz=>by grind[del_at]
  rw[QbR bz]at q;refine(hk c o q).stay (λb u j z=>fS _ z λhm=>?_) (λb z=>?_) λb xs z=>?_
  .grind
  all_goals grind[QbR]
 .exact fS _ (base.keep b o q n j (by simp)) (T b o q j)
 .obtain⟨o',z⟩:=base.there b o q (by simp);grind[fS]
 .obtain⟨sl,z⟩:=base.slot b o q n j (by simp);have U:=I.funs;rw[az]at U;obtain⟨_,o2,z2,nf⟩:=U.mem j;rw[z]at z2;cases z2;obtain⟨cz,z3⟩:=x4 b _ z nf;grind
 .rw[QbR (na b o q)];exact base.free b o q n (by simp)
 .have:=base.tups b xs q;grind[QbR]
 .have:=base.frzs b o u q;grind[QbR]
 .obtain⟨more,this⟩:=base.tbls b ps q;grind[QbR]
def Qjf{P:aY}{K:aa}{A:dm}{s:aC}{G:Prop}(I:Inv (cxOf (CX2 P w) P w K mg base N qual scope f l A outer s H E) aq σ H1 s1)(L:CX2 P w (cxOf (CX2 P w) P w K mg base N qual scope f l A outer s H E).stack H1 s1 E e s')(k:∀a C d B,e = .ref a->(A.deeper (cM qual scope s.heap.objs.size f l)).frames=some (cM qual scope s.heap.objs.size f l::outer)->FlyO B (cM qual scope s.heap.objs.size f l::outer) a (.ref C) d .none s'.heap ->
   (∀D,FlyO B outer a (.ref C) d .none D->s'.heap.UpToSlots D->CX2 P w outer H s E e { s' with heap:=D })->G):G:=by
 generalize j:cxOf (CX2 P w) P w K mg base N qual scope f l A outer s H E=X at I L;have M:X.stack=cM qual scope s.heap.objs.size f l::outer:=by rw[<-j];rfl
 have O:X.outer=outer:=by rw[<-j];rfl
 have T :=I.ok.frames;have hA:X.A=A.deeper (cM qual scope s.heap.objs.size f l):=by rw[<-j];rfl
 have hL:X.env.locals=s.heap.objs.size:=by rw[<-j];rfl
 have U:X.s₀=s:=by rw[<-j];rfl
 have az:X.H₀=H:=by rw[<-j];rfl
 have hex:X.ex=[]:=by rw[<-j];rfl
 obtain⟨a,C,d,H',B,rfl,ho,hb,F,hE⟩:=L;have base:=I.base;rw[U,az,show X.fs=frs outer by show frs X.outer=_;rw[O],hex]at base;rw[M]at T F;have Y:∀b o,s.heap.get? b=some o->b∉frs outer->b∉frs (cM qual scope s.heap.objs.size f l::outer):=λb o q J hm=>by
  have:=I.stkSub b (by rw[M];exact hm);rw[hL,show X.fs=frs outer by show frs X.outer=_;rw[O]]at this;rcases ap.mp this with z | z
  .exact absurd (aD q) (by rw[z];exact b4 _)
  .exact J z
 have av:∀b,b∈frs outer->b∈frs (cM qual scope s.heap.objs.size f l::outer):=λb hm=>by
  obtain⟨env,he,hf⟩:=bw.mp hm;exact bw.mpr ⟨env,.tail _ he,hf⟩
 refine k a C d B rfl (by rw[<-hA];exact T) F.fl λD x1 u=>?_;refine⟨a,C,d,H',B,rfl,?_,hb,⟨x1,F.ok,λb o q n J=>F.keep b o (base.keep b o q n J (by simp)) (base.free b o q n (by simp)) (Y b o q J),λb o q J=>?_,λb o q n hm=>?_,λb o q n=>?_,λb xs q=>F.tups b xs (base.tups b xs q),λb o u q=>F.frzs b o u (base.frzs b o u q),λb ps q=>?_⟩,hE⟩
 .rw[ho,I.os,U]
 .obtain⟨o',z⟩:=base.there b o q (by simp);exact F.there b o' z (Y b o q J)
 .obtain⟨sl,z⟩:=base.slot b o q n hm (by simp);obtain⟨aj,z2⟩:=F.slot b _ z (base.free b o q n (by simp)) (av b hm);obtain⟨_,o2,z3,nf⟩:=F.fl.fun_.mem (av b hm);rw[z2]at z3;cases z3;obtain⟨sl3,z4⟩:=u b _ z2 nf;exact⟨sl3,z4⟩
 .obtain⟨o',z⟩:=base.there b o q (by simp);exact F.free b o' z (base.free b o q n (by simp))
 .obtain⟨m1,z⟩:=base.tbls b ps q;obtain⟨m2,z2⟩:=F.tbls b _ z;exact⟨m1++m2,by rw[z2,iT]⟩
end
def QdZ(X:Cx)(E:XK):Prop:=∀f (j:St) H s a C d ob vs,Inv X f j H s->s.heap.get? a=some ob->ob.cls = .ref C->ob.dict=d->ob.data = .fields vs->vs[1]?=some .none->X.s₀.heap.get? a=none ->
 (∀o,H a=some o->∃l,o = .ext l)->E (.ref C) d (del H a)->X.xe (.ref a) s
def del_none(n:H a=none):del H a=H:=by
 funext b;by_cases h:b=a
 .subst h;rw[del_at,n]
 .rw[QbR h]
def made_X(B:QdZ X E)(hex:X.ex=[])(I:Inv X f D H s)(hm:Heap.MadeExcOf s.heap J a (.ref C) us)(q:E (.ref C) none H):X.xe (.ref a) { s with heap:=J }:=by
 obtain⟨t,e,_,_⟩:=hm.there;have j:H a=none:=by
  cases z:H a with
  |none=>rfl
  |some o =>
   obtain⟨ob,e2⟩:=(I.hok a o z).there;rw[hm.new]at e2;cases e2
 have h0:X.s₀.heap.get? a=none:=by
  cases z:X.s₀.heap.get? a with
  |none=>rfl
  |some o =>
   obtain⟨L,l⟩:=I.base.there a o z (by rw[hex];simp);rw[hm.new]at l;cases l
 exact B f D H _ a C none _ _ (I.kept hm.keeps) e rfl rfl rfl rfl h0 (λo z=>by rw[j]at z;cases z) (by rw[del_none j];exact q)
def valB:List Value:=[.type "ValueError",.type "Exception",.type "BaseException",.type "object"]
def XNew(K:aa)(C:Addr):Prop:=PySem.W.excIn K C valB "ValueError.__new__"=true
set_option tactic.hygienic true in
def XNew.parts{K:aa}(X:K.In h)(q:XNew K C):∃bm N nm f bs hd sn sub ab col dd k0 k1 k2 k3 k5 mN,h.get? C=some (excClassObj nm f C N bs bm hd sn sub ab col dd k0 k1 k2 k3 k5 "ValueError.__new__")/\h.Ns N mN/\mN "__init__"=none/\OwnTail h valB bm:=by
 delta XNew PySem.W.excIn at q;split at q;case h_2=>cases q
 case h_1 dd H sl I =>
  split at q;case h_2=>cases q
  case h_1 C2 bm J L M O nn T e1 e2 =>
   rw[aN,aN,aN,aN,aN]at q;obtain⟨⟨⟨⟨⟨j,l⟩,D⟩,U⟩,E⟩,B⟩:=q;have j:=bg.mp j;have l:=bg.mp l;have B:=bg.mp B;rw[gF]at D;subst j l;obtain⟨nm,bs,Y,ns,f,hd,sn,sub,ab,col,del⟩:=H;cases e1;cases D;have e3 :=fK.mp e2;cases e3;exact⟨bm,ns,nm,f,bs,hd,sn,sub,ab,col,dd,J,L,M,O,T,_,X _ _ I,.of_isNs (PySem.W.isNs_of_in X E),PySem.W.nsMap_none_of_in X E B,PySem.W.tail_of_in X U⟩
def sRaise(C:Addr)(E:XK)(t:TA):TS:=λ_ f H=>t f H λvs j=>vs.length<=aI/\E (.ref C) none j
section
def ps_raise(Y:QdZ X E)(hex:X.ex=[])(hh:X.A.handled=none)(hg:Gl X x)(hm:X.mg x=some (.ref C))(hk:XNew X.K C)(ha:PA X (e::B) t)(l:ah (e::B) X.env=(false,eval e X.env)::ah B X.env:=by rfl)(L:(bx f (ah B X.env)).any (·.1)=false:=by rfl)(hd:(x=="__debug__")=false:=by decide) :
  PS X (.Raise (some (.Call (.Name x np) (e::B) [] f)) none av) (sRaise C E t):=by
 intro j s σ H D I h;obtain⟨bm,N,nm,qn,bs,M,sn,sub,ab,col,dd,k0,k1,k2,k3,k5,mN,hC,hN,O,T⟩:=hk.parts I.mod.kin;refine wpAny_Raise_call_subT (nm:=nm) (q:=qn) (N:=N) (bs:=bs) (hdct:=M) (sn:=sn) (sub:=sub) (ab:=ab) (col:=col) (dd:=dd) (k0:=k0) (k1:=k1) (k2:=k2) (k3:=k3) (k5:=k5)
  F.excBase_ValueError (T.hasType F.excBase_ValueError.hasBase) hh (by rw[l];show(false||(bx f (ah B X.env)).any (·.1))=false;rw[L];rfl) O (Qcm I hg hm ⟨rfl,?_⟩ hd)
 rw[l];refine jb ?_;have h0:=ha f j s σ H _ I h;rw[l]at h0;exact thn h0 λus s2 zz=>by obtain⟨vs,H1,J,r,z,q⟩:=zz;exact⟨rfl,by rw[<-r.length];exact z,J.bk _ _ hC,hN.keeps J.bk,T.keeps J.bk,λh' a U=>made_X Y hex J U q⟩
end
def Cx.inExc(X:Cx)(a:Addr)(f:Obj):Cx:={ X with A:=X.A.mark (some (.ref a)),calm:=false,pn:=X.pn++[(a,f)],xe:=λ_ _=>False }
section
def Inv.inExc(I:Inv X l D H s)(he:s.heap.get? a=some B)(J:H a=none)(hl:a≠X.env.locals)(hf:a∉X.fs)(hd:∀v,B.data≠.cell v):Inv (X.inExc a B) l D H s:=by
 have ok:=I.ok;refine⟨⟨ok.mod,ok.kind,ok.glob,ok.blt,ok.above,ok.inj,ok.has,ok.cab,(λz=>nomatch z),ok.frames,ok.stk,ok.exf,ok.bs,ok.bsz,ok.noex,ok.exfs,ok.funs,ok.frf⟩,I.os,I.bare,I.base,I.loc,I.cell,I.free,I.freeC,λp f=>?_,I.hok,I.len⟩;rcases aP.mp f with f | f
 .rcases aP.mp (f) with f | f
  .exact I.pin p (cy _ f)
  .cases (al.mp f);exact⟨he,J,hl,hf,hd⟩
 .exact I.pin p (aV _ f)
def Inv.outExc(I:Inv (X.inExc a B) f l H s)(ok:X.Ok):Inv X f l H s :=
 ⟨ok,I.os,I.bare,I.base,I.loc,I.cell,I.free,I.freeC,λp j=>I.pin p ((aP.mp j).elim (λz=>cy _ (cy _ z)) λz=>aV _ z),I.hok,I.len⟩
def Qfx(I:Inv X l T H s)(U:X.N.Nodup)(Y:X.N[i]?=some n)(hl:X.env.scope.names.lookup n=some .local)(h:∀s',Inv X l (T.set i none) H s'->Q () s'):aE M A (do bindName X.env n .none;unbindBehindTheSuite X.env n av) Q E s:=by
 obtain⟨m,hn,D⟩:=id I.loc;have cne:=I.cne;have low:∀b o,X.s₀.heap.get? b=some o->b≠X.env.locals:=λb o e=>aL (aF (aD e) I.ok.above);refine wpAny_nameGoes_keeps hl hn (by rw[I.ok.kind];rfl) λh' v J f=>h _ ?_;refine⟨I.ok,I.os,I.bare,⟨λb o e n L B=>(f.2 b (low b o e)).trans (I.base.keep b o e n L B),λb o e n L B=>?_,I.base.free,λb o e B=>?_,I.base.tups,I.base.frzs,I.base.tbls⟩,⟨_,J,λj y v' e1 e2 e3=>?_⟩,λy c e=>?_,I.free,I.freeC,λp hp=>?_,λb ob e=>?_,by simpa using I.len⟩
 .obtain⟨sl,e1⟩:=I.base.slot b o e n L B;exact⟨sl,(f.2 b (low b o e)).trans e1⟩
 .obtain⟨o',e1⟩:=I.base.there b o e B;exact⟨o',(f.2 b (low b o e)).trans e1⟩
 .have hj:j≠i:=λz=>by
   subst z;rw[lT]at e2;simp at e2
  rw[aA (Ne.symm hj)]at e2;obtain⟨u,r,q⟩:=D j y v' e1 e2 e3;refine⟨u,r,?_⟩;rcases q with⟨k,e⟩|⟨k,c,e,z⟩
  .have:y≠n:=λe'=>hj (Qel U e1 (e'▸Y));exact .inl ⟨k,by simp[this,e]⟩
  .exact .inr ⟨k,c,e,z.sameBut f (cne y c e)⟩
 .obtain⟨O,z⟩:=I.cell y c e;exact⟨O,z.sameBut f (cne y c e)⟩
 .obtain⟨e,n,ne,nf,d⟩:=I.pin p hp;exact⟨(f.2 p.1 ne).trans e,n,ne,nf,d⟩
 .refine(I.hok b ob e).stay (λc O hc q=>(f.2 c λz=>?_).trans q) (λ_ q=>q) λ_ _ q=>q;subst z;rcases hc with z | z
  .rw[<-z,I.free]at e;cases e
  .rw[I.free]at z;cases z
structure XCat (K:aa) (D:Addr):Prop where
 cl:XCl K D
 ty:PySem.W.typeIn K (.ref D)=some (.type "type")
def Lands(X:Cx)(D:Addr)(sts:List Stmt)(i:Nat)(l:Ends)(B:St):XK:=λcls _ E=>∃C,cls = .ref C/\PySem.W.mroIn X.K C (.ref D)=some true/\∀a j,j.cls = .ref C->∃t,PSs (X.inExc a j) sts t /\
 t { nx:=λf H=>l.nx (f.set i none) H,rt:=l.rt,bk:=λf H=>l.bk (f.set i none) H,ct:=λf H=>l.ct (f.set i none) H } (B.set i (some (.ref a))) E
def caughtX{X:Cx}{l:List (Addr×Obj)}{σ:St}{H:Hp}{s:aC}{s':aC}{e:Value}{x:Str}{n:Str}{np:Pos}{ak:Pos}{D:Addr}{L:List Stmt}{rest:List lK}{i:Nat}{Ds:Ends}(I:Inv X l σ H s)(M:X.stack=X.env::X.outer)(T:X.env.frame=some X.env.locals)(aJ:CX2 X.prog X.w X.stack H s (Lands X D (U::L) i Ds σ) e s')(hg:Gl X x)(hm:X.mg x=some (.ref D))(hD:XCat X.K D)(hN:X.N.Nodup)(hi:X.N[i]?=some n)(hl:X.env.scope.names.lookup n=some .local)(aZ:(x=="__debug__")=false:=by decide) :
  aE (model X.prog X.w) X.A (fZ e X.env) (λ_ Y=>aE (model X.prog X.w) X.A (lM e none) (λ_ av =>
   aE (model X.prog X.w) X.A (handleBy e X.env (.ExceptHandler (some (.Name x np)) (some n) (U::L) ak::rest)) (SP X l Ds) X.xe av) X.xe Y) X.xe s':=by
 obtain⟨a,C,d,H',B,rfl,ho,hb,F,C',hC,az,hE⟩:=aJ;cases hC;have aq:=I.ok.frames;have fl:=F.fl;rw[M]at aq fl;refine QiF aq T fl λh4 held bv=>QgI held λh5 aj bz=>?_;rw[<-M]at aj;have F5:=F.on aj (bv.trans bz);have mk:∀E,FlyX X.prog X.w X.stack H s.heap H' B a C d E->∃j,E.get? a=some j/\j.cls = .ref C/\Inv (X.inExc a j) l σ H' { s' with heap:=E }:=λE F6=>by
  have I6:Inv X l σ H' { s' with heap:=E }:=I.call' ho (F6.un I.stkFree) F6.hok hb (λ_ z=>nomatch z);obtain⟨j,vs,he,hc,_,hd⟩:=F6.fl.obj;have nf:a∉frs X.stack:=λz=>by
   obtain⟨_,o2,z2,nf⟩:=F6.fl.fun_.mem z;rw[he]at z2;cases z2;exact nf vs hd
  have mem:∀b,b=X.env.locals\/b∈X.fs->b∈frs X.stack:=λb hb=>by
   rw[M];delta frs;rw[fV,T];exact ap.mpr hb
  exact⟨j,he,hc,I6.inExc he F6.new (λz=>nf (mem a (.inl z))) (λz=>nf (mem a (.inr z))) λv q=>by rw[hd]at q;cases q⟩
 obtain⟨bq,bj,bJ,I5⟩:=mk h5 F5;refine wpAny_handleBy_cons (codeAny_handlers_test (Qcm I5 hg hm (QmJ I5.kIn ⟨bq,bj,bJ⟩ hD.cl hD.ty az ?_) aZ)) (by intro q;cases q);refine codeAny_handlers_suite_as (QgI F5.fl λE bZ cv=>?_);obtain⟨j,he,hc,I6⟩:=mk E (F5.on bZ cv);obtain⟨t,ht,q⟩:=hE a j hc;refine QaH (X:=X.inExc a j) (v := .ref a) I6 hN hi (.inl hl) rfl (λs7 I7=>?_) (.inr hl);refine da (ht l s7 _ H' _ I7 q) (λf s8 z=>?_) λ_ _ z=>z.elim;cases f with
 |ret u =>
  obtain⟨v,cz,O,J,r,q⟩:=z;exact Qfx (J.outExc I.ok) hN hi hl λs9 J9=>⟨v,_,O,J9,r,q⟩
 |_ =>
  obtain⟨cz,O,J,q⟩:=z;exact Qfx (J.outExc I.ok) hN hi hl λs9 J9=>⟨_,O,J9,q⟩
end
def QXE(X:Cx)(e:Expr)(t:XK->TE):Prop:=∀f s (j:St) H Q E,Inv X f j H s ->
 (∀l s1 e s2,Inv X f j l s1->CX2 X.prog X.w X.stack l s1 E e s2->X.xe e s2)->t E j H Q->aE (model X.prog X.w) X.A (eval e X.env) (EP X f j Q) X.xe s
def QX(X:Cx)(st:Stmt)(t:(St->XK)->TS):Prop:=∀f s (l:St) H D E,Inv X f l H s ->
 (∀j B s1 e s2,Inv X f j B s1->CX2 X.prog X.w X.stack B s1 (E j) e s2->X.xe e s2)->t E D l H->aE (model X.prog X.w) X.A (exec st X.env) (SP X f D) X.xe s
def QXs(X:Cx)(sts:List Stmt)(t:(St->XK)->TS):Prop:=∀f s (l:St) H D E,Inv X f l H s ->
 (∀j B s1 e s2,Inv X f j B s1->CX2 X.prog X.w X.stack B s1 (E j) e s2->X.xe e s2)->t E D l H->aE (model X.prog X.w) X.A (execs sts X.env) (SP X f D) X.xe s
section
def QX.imp{X:Cx}{st:Stmt}{t t':(St->XK)->TS}(h:QX X st t)(i:∀E D f H,t' E D f H->t E D f H):QX X st t':=λj s f H D E I l q=>h j s f H D E I l (i E D f H q)
def qxs_one{X:Cx}{st:Stmt}{t:(St->XK)->TS}(h:QX X st t):QXs X [st] t:=λj s l H D E I B q=>jS (thn (h j s l H D E I B q) λf s1 q=>by
 grind[fB])
def qx_set(M:X.N.Nodup)(O:X.N[i]?=some x)(T:Loc X.env.scope x)(he:QXE X e te)(U:cB e (some (.Name x l)) B.line X.env=pure false:=by rfl)(hf:X.fn x=true\/X.env.scope.names.lookup x=some .local:=by first | exact .inl rfl | exact .inr rfl | assumption) :
  QX X (.Assign [.Name x l] e B) (λE D f H=>tAsg (te (E f)) (QhF i) D f H):=λj s f H D E I J h =>
 wpAny_Assign_Name (thn (he j s f H _ (E f) I (λL s1 e s2=>J f L s1 e s2) h) λv s1 ⟨y,L,Y,r1,q1⟩=>QaH Y M O T r1 (λs2 I2=>⟨_,L,I2,q1⟩) hf) U
def run_fnQ(F:FnOk X.prog X.w X.K X.mg X.base (CX2 X.prog X.w) k f fd ps sp)(hr:Room k X.A)(B:KBinds X.K fd ps ks g D)(I:Inv X l M H s)(O:∀e s2,CX2 X.prog X.w X.stack H s E e s2->X.xe e s2)(r:Vals vs us)(T:Vals J ws)(h:sp (D vs J) H Q E):aE (model X.prog X.w) X.A (call (.ref f) us (ks.zip ws)) (EP X l M Q) X.xe s:=by
 have L:=B.rel r T;have hl:(g us ws).length=ps.length:=by rw[<-L.length];exact F.len _ _ _ _ h
 refine kE (fh (F.run X.A X.stack s H ⟨us,ks.zip ws⟩ (g us ws) (D vs J) Q E hr I.env0 (B.to s us ws I.kIn hl) L h) λr s' j=>?_);rcases r with e | (_ | _ | _ | u)
 .exact O e s' j
 all_goals first | exact I.after j | exact cP j
def Qmr{X:Cx}(f:Zp X.K fd ps ds)(hd:Vals dvs ds):KBinds X.K fd ps [] (λus _=>us++ds) (λvs _=>vs++dvs):=⟨λs us _ X hl=>f s us X hl,λr _=>r.append hd⟩
def ps_tryX{rest:List lK}(U:X.stack=X.env::X.outer)(Y:X.env.frame=some X.env.locals)(hb:∀xe,QXs (X.wish xe) body tb)(hg:Gl X x)(hm:X.mg x=some (.ref D))(hD:XCat X.K D)(hN:X.N.Nodup)(hi:X.N[i]?=some n)(hl:X.env.scope.names.lookup n=some .local)(av:(x=="__debug__")=false:=by decide) :
  PS X (.Try body (.ExceptHandler (some (.Name x np)) (some n) (l::f) M::rest) [] [] aq) (λL σ H=>tb (λB=>Lands X D (l::f) i L B) L σ H):=by
 intro j s σ H L I h;have w:=hb (λe E=>aE (model X.prog X.w) X.A (fZ e X.env) (λ_ O=>aE (model X.prog X.w) X.A (lM e none) (λ_ T=>aE (model X.prog X.w) X.A (handleBy e X.env (.ExceptHandler (some (.Name x np)) (some n) (l::f) M::rest)) (SP X j L) X.xe T) X.xe O) X.xe E)
  j s σ H L (λB=>Lands X D (l::f) i L B) (I.wish _) (λaj H1 s1 e s2 J az=>caughtX J.unwish U Y az hg hm hD hN hi hl av) h
 refine wpAny_Try_except (thn w λfl s1 q=>?_);have q:=q.unwish;cases fl with
 |next=>exact fB q
 |_=>exact q
end
section
def QmH(x:FlyO B l e cls d fl s.heap)(U:∀J,FlyO B l e cls d (g.elim .none λf=>bP f) J->s.heap.UpToSlots J->Q () { s with heap:=J }):aE M A (lM (.ref e) g) Q E s:=by
 obtain⟨oe,vs,T,oT,ts,k1,k2,k3,Y,k5,k6,k7,L,I,O⟩:=x.at_;have z :=(b0.mp O).1;generalize hu:(g.elim de λf=>bP f)=u at U;have oth:∀b,b≠T->(s.heap.update T (gk (·.setIfInBounds 3 u))).get? b=s.heap.get? b:=λb q=>bK _ _ q.symm;have j:∀b o,s.heap.get? b=some o->(∀ws,o.data≠.fields ws)->b≠T:=λb o D H q3=>by
  subst q3;rw[L]at D;cases D;exact H _ I
 show aE M A (field (.ref e) 1 >>= λtb=>if tb != .none then mH tb 3 (g.elim de λf=>bP f) else pure ()) Q E s;rw[hu];refine ac (dQ k1 Y k5 ?_);refine cS L I z (U _ ⟨λb o q=>(oth b λw=>by subst w;rw[k6]at q;cases q).trans (x.stay b o q),x.new,x.fun_.of_keeps λb o D H=>⟨o,(oth b (j b o D H)).trans D,rfl⟩,?_⟩ λb o D H=>⟨o.slots,(oth b (j b o D H)).trans D⟩);exact⟨oe,vs,T,_,_,(oth e k7.symm).trans k1,k2,k3,Y,k5,k6,k7,dC _ L (eO (dX I _)),dX I _,by simp[z]⟩
def fly_same{s:aC}{env:Env}(hf:env.frame=some L)(x:FlyO B l e cls d (bP L) s.heap)(D:Q () s):aE M A (fZ (.ref e) env) Q E s:=by
 obtain⟨J,vs,T,O,U,k1,k2,k3,j,k5,Y,k7,H,I,f⟩:=x.at_;rw[QgB _ _ hf];refine ac (dQ k1 j k5 ?_);refine ac (ac (dQ H I f ?_));rw[au (by simp)];refine ag ?_;exact ag D
def Up(B:Heap)(l:List Env)(L e:Addr)(cls:Value)(d:Option Addr)(h:Heap):Prop :=
 (∃f vs,h.get? e=some f/\f.cls=cls/\f.dict=d/\f.data = .fields vs/\vs[1]?=some .none/\B.StaysIn h/\B.get? e=none/\h.FunFrames B l)\/FlyO B l e cls d .none h\/FlyO B l e cls d (bP L) h
def Qky{A:dm}{s:aC}(f:A.frames=some (env::outer))(hf:env.frame=some L)(x:Up B (env::outer) L e cls d s.heap)(l:∀D,FlyO B (env::outer) e cls d (bP L) D->s.heap.UpToSlots D->Q () { s with heap:=D }):aE M A (fZ (.ref e) env) Q E s:=by
 rcases x with⟨T,vs,h1,rfl,rfl,h2,j,H,I,J⟩|x | x
 .exact QmI f hf H I J h1 h2 j l
 .exact QiF f hf x l
 .exact fly_same hf x (l _ x λb o O _=>⟨o.slots,O⟩)
def Aloft(env:Env)(outer:List Env)(L:Addr)(Z:Value->aC->Prop):Value->aC->Prop:=λv s=>∃e cls d B,v = .ref e/\Up B (env::outer) L e cls d s.heap/\∀f,FlyO B outer e cls d .none f->s.heap.UpToSlots f->Z v { s with heap:=f }
def Qgq(f:A.frames=some (env::outer))(hf:env.frame=some L)(x:Aloft env outer L Z v s):aE M A (leaving env v) (λ_ l=>Z v l) I s:=by
 obtain⟨e,cls,d,B,rfl,u,z⟩:=x;exact ac (Qky f hf u λH y j=>QgI y λh2 D E=>z h2 D.tail (j.trans E))
def Qnf(f:A.frames=some (env::outer))(hf:env.frame=some L):f7 M A env (Aloft env outer L Z):=λv s x=>by
 obtain⟨e,cls,d,B,rfl,u,z⟩:=x;refine Qky f hf u λO y j=>?_;obtain⟨U,vs,T,Y,ts,k1,k2,k3,l,k5,_⟩:=id y.at_;refine ac (dQ k1 l k5 ?_);rw[aK (by simp),hf];exact QmH y λh2 D E=>⟨e,cls,d,B,rfl,.inr (.inr D),λH I J=>z H I ((j.trans E).trans J)⟩
end
section
abbrev cxA(P:aY)(w:cf)(K:aa)(mg:Str->Option Value)(base:Heap)(N:List Str)(qual:Str)(scope:fN)(f:Addr)(l:Value)(A:dm)(outer:List Env)(s:aC)(H:Hp)(E:XK):Cx :=
 (cxOf (CX2 P w) P w K mg base N qual scope f l A outer s H E).wish (Aloft (cM qual scope s.heap.objs.size f l) outer s.heap.objs.size λv s'=>CX2 P w outer H s E v s')
def raisesA{P:aY}{K:aa}:QdZ (cxA P w K mg base N qual scope f Y A outer s H E) E:=λj σ H2 s2 a C d ob vs I h1 h2 J l D L M q =>
 Qhp I.unwish h1 h2 J l D L M q λB O st T U land=>⟨a,ob.cls,ob.dict,B,rfl,.inl ⟨ob,vs,h1,rfl,rfl,l,D,st,T,U⟩,land⟩
def passA{P:aY}{K:aa}:Qay (CX2 P w) (cxA P w K mg base N qual scope f J A outer s H E) E:=λl L M s1 e s' I j =>
 Qjf I.unwish j λa C d B he D fl land=>⟨a,.ref C,d,B,he,.inr (.inl fl),land⟩
def ownA{P:aY}{K:aa}(ok:(cxA P w K mg base N qual scope f l A outer s H E).Ok):f7 (model P w) (cxA P w K mg base N qual scope f l A outer s H E).A (cxA P w K mg base N qual scope f l A outer s H E).env (cxA P w K mg base N qual scope f l A outer s H E).xe :=
 Qnf ok.frames rfl
def downA{P:aY}{K:aa}(h:PSs (cxA P w K mg base N qual scope f l A outer s H E) sts t):PSs (cxOf (CX2 P w) P w K mg base N qual scope f l A outer s H E) sts t:=λj s1 B J D I hw =>
 da (h j s1 B J D (I.wish _) hw) (λ_ _ q=>q.unwish) λv s2 x=>Qgq I.ok.frames rfl x
end
end L2
namespace L2.PM
open PySem PySem.Spec PyProof.Rows
def Yn{α:Type}[Decidable c]{x:Option α}{y:α}(h:(if c then x else none)=some y):c/\x=some y:=by
 by_cases hc:c
 .rw[au hc]at h;exact⟨hc,h⟩
 .rw[aK hc]at h;cases h
def Wx(F H:Hp)(E:XK)(C:Addr):Prop:=∀j f,Grow F H j f->E (.ref C) none f
def Wr(K:aa)(F H:Hp)(Q:VK)(E:XK):PV ⊕ Addr->Prop
 |.inl r=>Wv K F H r Q
 |.inr C=>Wx F H E C
def spR(K:aa)(n:Nat)(g:List PV->Option (PV ⊕ Addr)):Sp:=λvs H Q E=>vs.length=n/\∃F qs o,Same F H/\RepL K F qs vs/\g qs=some o/\Wr K F H Q E o
abbrev MStR:=PEnv->Option (Out ⊕ Addr)
def OutROk(K:aa)(B f:Hp)(D:Ends)(E:XK):Out ⊕ Addr->Prop
 |.inl o=>QnA K B f D o
 |.inr C=>Wx f B E C
def tMR(K:aa)(E:XK)(m:MStR):TS:=λD l H=>∃B f F j o,SR K B f F l H j/\m j=some o/\OutROk K B f D E o
def RM(X:Cx)(E:XK)(st:Stmt)(m:MStR):Prop:=PS X st (tMR X.K E m)
def RMs(X:Cx)(E:XK)(sts:List Stmt)(m:MStR):Prop:=PSs X sts (tMR X.K E m)
section
def _root_.L2.PS.noX{X:Cx}{st:Stmt}(h:PS X.nox st t):PS X st t:=λf s j H D I hw=>da (h f s j H D (I.wish _) hw) (λ_ _ q=>q.unwish) λ_ _ z=>cP z
def Qcw(m:MSt):MStR:=λf=>(m f).map .inl
def rm_lift{X:Cx}{st:Stmt}(h:SM X.nox st m):RM X E st (Qcw m):=PS.imp (PS.noX h) λD J H j=>by
 obtain⟨B,f,F,l,o,S,e,ok⟩:=j;obtain⟨I,e1,rfl⟩:=Qw e;exact⟨B,f,F,l,I,S,e1,ok⟩
def rs_lift(h:SMs X.nox sts m):RMs X E sts (Qcw m):=PSs.imp (PSs.nox h) λD J H j=>by
 obtain⟨B,f,F,l,o,S,e,ok⟩:=j;obtain⟨I,e1,rfl⟩:=Qw e;exact⟨B,f,F,l,I,S,e1,ok⟩
def rSeq(s1 s2:MStR):MStR:=λj=>(s1 j).bind λo=>match o with
 |.inl (.nx f)=>s2 f
 |o=>some o
variable{X:Cx}{E:XK}{st:Stmt}{sts:List Stmt}{s1:MStR}{s2:MStR} in theorem rs_cons (h:RM X E st s1) (hr:RMs X E sts s2):RMs X E (st::sts) (rSeq s1 s2):=PSs.imp (pss_cons h hr) λD σ H zz=>by
 obtain⟨B,F₀,F,γ,o,S,e,ok⟩:=zz;obtain⟨o1,e1,e2⟩:=Qb e;refine⟨B,F₀,F,γ,o1,S,e1,?_⟩;rcases o1 with(γ' | p | xs | γ' | γ') | p
 .exact λσ' H' F' S'=>⟨B,F₀,F',γ',o,S',e2,ok⟩
 all_goals (cases e2;exact ok)
def rs_one{X:Cx}{st:Stmt}(h:RM X E st s1):RMs X E [st] s1:=Qgx h
def rIf(t:PEnv->Option Bool)(s1 s2:MStR):MStR:=λf=>(t f).bind λk=>if k=true then s1 f else s2 f
def rm_if(hc:TM X.nox ms c t)(l:RMs X E xs s1)(I:RMs X E ys s2):RM X E (.If c xs ys J) (rIf t s1 s2):=PS.imp (ps_if (PT.nox hc) l I) λD U H L=>by
 obtain⟨B,f,F,j,o,S,e,ok⟩:=L;obtain⟨k,e1,e2⟩:=Qb e;obtain⟨M,O,Y,T⟩:=S.see ms;refine⟨M,j,k,O.sub,T,e1,λH' F' g=>?_⟩;cases k with
 |_=>exact⟨B,f,F,j,o,S.same g.same,e2,ok⟩
def QeQ(C:Addr)(f:PEnv->Option (List PV)):MStR:=λj=>(f j).bind λqs=>if qs.length<9 then some (.inr C) else none
def rm_raise(M:QdZ X E)(hex:X.ex=[])(O:X.A.handled=none)(T:Gl X x)(hm:X.mg x=some (.ref C))(U:XNew X.K C)(Y:AM X ms (e::l) ma)(I:ah (e::l) X.env=(false,eval e X.env)::ah l X.env:=by rfl)(J:(bx f (ah l X.env)).any (·.1)=false:=by rfl)(hd:(x=="__debug__")=false:=by decide) :
  RM X E (.Raise (some (.Call (.Name x np) (e::l) [] f)) none av) (QeQ C ma):=PS.imp (ps_raise M hex O T hm U Y I J hd) λD σ H zz=>by
 obtain⟨B,j,F,γ,o,S,e,ok⟩:=zz;obtain⟨qs,e1,e⟩:=Qb e;obtain⟨hq,e⟩:=Yn e;cases e;obtain⟨F1,L,x1,er⟩:=S.see ms;refine⟨F1,γ,qs,L.sub,er,e1,λvs H' F' g q=>⟨?_,ok _ _ (L.grow g).gr⟩⟩;have:=q.length;have hz:9<=aI:=by decide
 lia
def CalZ(P:aY)(w:cf)(K:aa)(mg:Str->Option Value)(base:Heap)(k:Nat)(x:Str)(n:Nat)(g:List PV->Option (PV ⊕ Addr)):Prop :=
 ∃f fd ps,FnOk P w K mg base (CX2 P w) k f fd ps (spR K n g)/\mg x=some (.ref f)/\bX K (.ref f)=true/\Zp K fd ps []
def tMZ(K:aa)(ms:List Nat)(E:XK)(g:List PV->Option (PV ⊕ Addr))(B:PEnv->Option (List PV)):TE:=λD H Q=>∃F f qs o,Same F H/\ERep K F D f ms/\B f=some qs/\g qs=some o/\∀j l,Grow F H j l->Wr K j l Q E o
def pe_calZ(J:Qay (CX2 X.prog X.w) X E)(c:CalZ X.prog X.w X.K X.mg X.base k x n g)(hn:∀ps r,g ps=some r->ps.length=n)(hr:Room k X.A)(L:Gl X x)(M:AM X ms (e::l) O)(B:(x=="__debug__")=false:=by decide)(he:ah (e::l) X.env=(false,eval e X.env)::ah l X.env:=by rfl)(D:(bx I (ah l X.env)).any (·.1)=false:=by rfl) :
  PE X (.Call (.Name x p) (e::l) [] I) (tMZ X.K ms E g O):=by
 obtain⟨f,fd,ps,F,hm,T,U⟩:=c;refine PE.imp (Qgy F hr L hm T U .nil J M B he D) λσ H Q Y=>?_;obtain⟨F,γ,qs,o,k1,k2,k3,k4,w⟩:=Y;refine⟨F,γ,qs,k1,k2,k3,λvs H' j gr q=>?_⟩;rw[bu];exact⟨by rw[q.length];grind,j,qs,o,gr.sub,q,k4,w j H' gr⟩
def Wx.down(w:Wx f B E C)(h1:∀l D,Grow I B l D->Grow f B l D):Wx I B E C:=λ_ _ g=>w _ _ (h1 _ _ g)
def Wx.from{K:aa}(w:Wx f B E C)(l:SR K B f D L H M)(gr:Grow D H I J):Wx I J E C:=λ_ _ j=>w _ _ (l.grow (gr.trans j)).gr
def rExE(ms:List Nat)(g:List PV->Option (PV ⊕ Addr))(l:PEnv->Option (List PV)):MStR:=λf=>(l f).bind λqs=>(g qs).map λo=>match o with
 |.inl r=>.inl (.nx (Qx (flat r) ms f))
 |.inr p=>.inr p
def rm_exE(h:PE X e (tMZ X.K ms E g I))(J:cB e none f.line X.env=pure false:=by rfl):RM X E (.Expr e f) (rExE ms g I):=PS.imp (Qaq h J) λD σ H L=>by
 obtain⟨B,l,F,M,o,S,e,ok⟩:=L;obtain⟨qs,e1,e⟩:=Qb e;obtain⟨r,e2,rfl⟩:=Qw e;obtain⟨O,j,x1,T⟩:=S.see ms;refine⟨O,M,qs,r,j.sub,T,e1,e2,λF' H' gr=>?_⟩;cases r with
 |inl r =>
  intro v H2 F2 U Y;obtain⟨F3,S3,q3⟩:=S.val j (gr.trans U) Y;exact ok _ _ F3 S3
 |inr p=>exact Wx.from ok j gr
def Qbk(g:PV->PEnv->Option PEnv)(b:MStR):List PV->PEnv->Option (Out ⊕ Addr)
 |[],f=>some (.inl (.nx f))
 | x::xs,f=>(g x f).bind λγ1=>(b γ1).bind λo=>match o with
  |.inl (.nx γ2)=>Qbk g b xs γ2
  |.inl (.ct γ2)=>Qbk g b xs γ2
  |.inl (.bk γ2)=>some (.inl (.nx γ2))
  |o=>some o
def rFor(ms:List Nat)(l:PEnv->Option (List PV))(g:PV->PEnv->Option PEnv)(b:MStR):MStR:=λf=>(l f).bind λxs=>Qbk g b xs (frz ms f)
def QmG{K:aa}{g:PV->PEnv->Option PEnv}(f:SR K B l F' I L γ1)(it:ItRep K J F' xs)(e2:Qbk g sb xs γ1=some o)(ok:OutROk K B l D E o) :
  ∃W:Nat->Nat->St->Hp->Prop,(∃m,W 0 m I L)/\∀i m I H,W i m I H ->
   (J.stop i H/\D.nx I H)\/(J.go i H/\∃N ,(∀M L,N M L->∃m',m'<m/\W (i+1) m' M L)/\∀x L,J.yld i H x L->tMG K ts g x I L λO U=>tMR K E sb { D with nx:=N,ct:=N,bk:=D.nx } O U):=by
 refine⟨λi m I H=>m=xs.length-i/\i<=xs.length/\∃F γ,SR K B l F I H γ/\Same F' F/\Qbk g sb (xs.drop i) γ=some o,⟨xs.length,by simp,cG _,F',γ1,f,Same.refl _,by simpa using e2⟩,?_⟩;rintro i m O U ⟨rfl,hi,F2,γ2,Y,x2,e2⟩;by_cases T:i<xs.length
 .refine .inr ⟨it.go i U T (x2.trans Y.sub),λI H=>∃F γ,SR K B l F I H γ/\Same F' F/\Qbk g sb (xs.drop (i+1)) γ=some o,λM L q=>⟨xs.length-(i+1),by omega,rfl,T,q⟩,λx H3 y=>?_⟩;obtain⟨p,e3,hy⟩:=it.yld i U x H3 T (x2.trans Y.sub) y;obtain⟨F3,g3,r3⟩:=hy F2 x2 Y.sub;have S3:=Y.grow g3;have ed:xs.drop i=p::xs.drop (i+1):=by
   obtain⟨q1,q2⟩:=aw.mp e3;rw[<-q2];exact b7 q1
  rw[ed]at e2;obtain⟨av,e4,e2⟩:=Qb e2;obtain⟨ob,e5,e2⟩:=Qb e2;refine⟨B,l,F3,γ2,p,av,S3,r3,e4,λaz S4 _ _=>?_⟩;have x3 :=x2.trans g3.ext;refine⟨B,F',F3,av,ob,S4.up f.f0 x3,e5,?_⟩;rcases ob with(j | p | ys | j | j) | p
  .exact λI H F S=>⟨F,j,S.down f.f0 f.fb,S.f0,e2⟩
  .cases e2;exact λv H F gr r=>ok v H F (gr.down f.f0 f.fb) r
  .cases e2;exact λa vs H F gr n nF hH r=>ok a vs H F (gr.down f.f0 f.fb) n nF hH r
  .cases e2;exact λI H F S=>ok I H F (S.down f.f0 f.fb)
  .exact λI H F S=>⟨F,j,S.down f.f0 f.fb,S.f0,e2⟩
  .cases e2;exact Wx.down ok λ_ _ gr=>gr.down f.f0 f.fb
 .have e:i=xs.length:=by lia
  subst e;rw[gZ]at e2;cases e2;exact .inl ⟨it.stop U (x2.trans Y.sub),ok O U F2 Y⟩
def rm_for(M:X.Ok->f7 (model X.prog X.w) X.A X.env X.xe)(hc:X.calm=true)(O:IM X ms l iter T)(U:GM X ts l gg)(Y:RMs X E body sb)(hs:∀x,cb iter X.env x=pure x:=by intro _;rfl):RM X E (.For l iter body [] av) (rFor ms T gg sb):=λf s σ H D I zz=>by
 obtain⟨B,j,F,γ,o,S,e,ok⟩:=zz;obtain⟨xs,e1,e2⟩:=Qb e;obtain⟨F1,L,x1,er⟩:=S.see ms;exact Qkf (M I.ok) hc O U Y hs f s σ H D I ⟨F1,γ,xs,L.sub,er,e1,λJ H' F' gr it=>QmG (L.grow gr) it e2 ok⟩
end
def outR:Out ⊕ Addr->Option (PV ⊕ Addr)
 |.inl o=>(outV o).map .inl
 |.inr p=>some (.inr p)
def runR(N n:Nat)(m:MStR)(ps:List PV):Option (PV ⊕ Addr):=if ps.length=n then (m (QQ N ps)).bind outR else none
def runR_len{N n:Nat}{m:MStR}:∀ps r,runR N n m ps=some r->ps.length=n:=λps r h=>by
 delta runR at h;exact(Yn h).1
section
def fnR_core{K:aa}(h:spR K n (runR N.length n m) vs H Q E):tMR K E m { nx:=λ_ f=>Q .non f,rt:=Q } (YN N vs) H:=by
 obtain⟨hl,F,qs,o,h1,h2,D,l⟩:=h;obtain⟨_,D⟩:=Yn D;obtain⟨B,e1,e2⟩:=Qb D;refine⟨H,F,F,_,B,QaI h1 h2,e1,?_⟩;rcases B with B | p
 .obtain⟨r,e3,rfl⟩:=Qw (e2);cases B with
  |nx I=>cases e3;exact λJ f j S=>l .non f j S.gr Qgw
  |rt p=>cases e3;exact λv f j g q=>l v f j g q
  |ro xs=>cases e3;exact λa vs f j g n L M q=>Wv.of_lst l a vs f j g n L M q
  |_=>cases e3
 .cases e2;exact l
def fnR{P:aY}{K:aa}{st:Stmt}(D:Fun K x qual st f fd)(I:FnScope N ps (Qe st))(J:ps.length=n)(B:∀l A outer s H E,Room k (A.deeper (cM qual (Qe st) s.heap.objs.size f l)) ->
   RMs (cxOf (CX2 P w) P w K mg base N qual (Qe st) f l A outer s H E) E (Qj st) m):FnOk P w K mg base (CX2 P w) (k+1) f fd ps (spR K n (runR N.length n m)):=by
 obtain⟨M,O,kV,doc,T,an,l,ct,L,rfl,lk,j⟩:=D.ex;exact Qnx lk j I (λvs H Q E h=>by rw[h.1,J]) λA outer s H vs Q E hr h=>⟨_,B l A outer s H E hr,fnR_core h⟩
def fnRA{P:aY}{K:aa}{st:Stmt}(D:Fun K x qual st f fd)(I:FnScope N ps (Qe st))(J:ps.length=n)(B:∀l A outer s H E,Room k (A.deeper (cM qual (Qe st) s.heap.objs.size f l)) ->
   RMs (cxA P w K mg base N qual (Qe st) f l A outer s H E) E (Qj st) m):FnOk P w K mg base (CX2 P w) (k+1) f fd ps (spR K n (runR N.length n m)) :=
 fnR D I J λl A outer s H E hr=>downA (B l A outer s H E hr)
end
end L2.PM
namespace L2
open PySem PySem.Spec PySem.Calls PyProof.Rows PySem.W
section
def qxe_meth(he:PE X o ta)(c:Cls X.K C)(hm:Meth X.K C m f)(F:FnOk X.prog X.w X.K X.mg X.base (CX2 X.prog X.w) k f fd ps sp)(hr:Room k X.A)(hb:Zp X.K fd ps ds)(hd:Vals dvs ds)(ha:PA X (e::J) t)(L:ah (e::J) X.env=(false,eval e X.env)::ah J X.env:=by rfl)(M:(bx B (ah J X.env)).any (·.1)=false:=by rfl)(ht:eval (.Call (.Attribute o m D) (e::J) [] B) X.env=(do
   let T <-eval o X.env
   gG D.atName
   let (f,first) <-holding [T] (fg T m pl)
   gP B f first (bx B (ah (e::J) X.env)) (dI B (ce [] X.env))):=by rfl) :
  QXE X (.Call (.Attribute o m D) (e::J) [] B) (λE=>tMeth C m sp dvs E ta t):=by
 intro j s U H Q E I hx h;refine fF (thn (he j s U H _ I h) λu s1 zz=>?_) ht;obtain⟨x,H1,Y,rx,a,dx,fs,ex,ea,l,q⟩:=zz;subst ex;obtain rfl:u=cR a:=rx;refine QbA Y ea c hm l (eg I.ok.mod.kin hm.kp (thn (ha B j s1 U H1 _ Y q) λus s2 ⟨vs,H2,O,r,q2⟩=>⟨O.kIn,?_⟩) L M);exact run_fnQ (vs := .ref a::vs) F hr (Qmr hb hd) O (λe s3=>hx H2 s2 e s3 O) (.cons rfl r) .nil q2
end
end L2
namespace L2.PM
open PySem PySem.Spec PyProof.Rows
abbrev MStQ:=PEnv->Option (Out ⊕ (PEnv×Addr))
def OutQOk(K:aa)(B f:Hp)(D:Ends)(E:St->XK):Out ⊕ (PEnv×Addr)->Prop
 |.inl o=>QnA K B f D o
 |.inr (l,C)=>∀j H F,SR K B f F j H l->E j (.ref C) none H
def tMQ(K:aa)(m:MStQ):(St->XK)->TS:=λE D l H=>∃B f F j o,SR K B f F l H j/\m j=some o/\OutQOk K B f D E o
def QM(X:Cx)(st:Stmt)(m:MStQ):Prop:=QX X st (tMQ X.K m)
def QMs(X:Cx)(sts:List Stmt)(m:MStQ):Prop:=QXs X sts (tMQ X.K m)
def Qkw(P:aY)(w:cf)(K:aa)(mg:Str->Option Value)(base:Heap)(k:Nat)(C:Addr)(m:Str)(n:Nat)(g:List PV->Option (PV ⊕ Addr)):Prop :=
 ∃f fd ps,FnOk P w K mg base (CX2 P w) k f fd ps (spR K n g)/\Cls K C/\Meth K C m f/\Zp K fd ps []
section
def qs_one{X:Cx}{st:Stmt}(h:QM X st s1):QMs X [st] s1:=qxs_one h
def QlZ{K:aa}{o:Out ⊕ (PEnv×Addr)}(S:SR K B f F l H J)(L:SR K B f O l H (PM.frz ms J))(gr:Grow O H T U)(Y:(match r with | .inl r=>.inl (.nx ((Qx (flat r) ms J).set i (.fz r))) | .inr p=>.inr (frz ms J,p))=o)(ok:OutQOk K B f D E o) :
  Wr K T U (λv I=>D.nx (l.set i (some v)) I) (E l) r:=by
 subst Y;cases r with
 |inl r =>
  intro v I M j q2;obtain⟨F3,S3,q3⟩:=S.val L (gr.trans j) q2;exact ok _ _ F3 (S3.setFz i q3)
 |inr p=>exact λM I j=>ok l I M (L.grow (gr.trans j))
def Qnk(ms:List Nat)(i:Nat)(C:Addr)(l:Str)(g:List PV->Option (PV ⊕ Addr))(B:MEx)(D:PEnv->Option (List PV)):MStQ:=λf=>(B f).bind λq=>if isC C l q=true then (D f).bind λps=>(g (q::ps)).map λo=>match o with
 |.inl r=>.inl (.nx ((Qx (flat r) ms f).set i (.fz r)))
 |.inr p=>.inr (frz ms f,p) else none
def qm_setM(hN:X.N.Nodup)(hi:X.N[i]?=some y)(hy:Loc X.env.scope y)(h:EM X ms o mo)(c:Qkw X.prog X.w X.K X.mg X.base k C L n g)(hn:∀ps r,g ps=some r->ps.length=n)(hr:Room k X.A)(ha:AM X ns (e::I) ma)(M:ah (e::I) X.env=(false,eval e X.env)::ah I X.env:=by rfl)(O:(bx J (ah I X.env)).any (·.1)=false:=by rfl)(ht:eval (.Call (.Attribute o L l) (e::I) [] J) X.env=(do
   let Y <-eval o X.env
   gG l.atName
   let (f,first) <-holding [Y] (fg Y L pl)
   gP J f first (bx J (ah (e::I) X.env)) (dI J (ce [] X.env))):=by rfl)(hs:cB (.Call (.Attribute o L l) (e::I) [] J) (some (.Name y p2)) T.line X.env=pure false:=by rfl)(hf:X.fn y=true\/X.env.scope.names.lookup y=some .local:=by first | exact .inl rfl | exact .inr rfl | assumption) :
  QM X (.Assign [.Name y p2] (.Call (.Attribute o L l) (e::I) [] J) T) (Qnk (ms++ns) i C L g mo ma):=by
 obtain⟨f,fd,ps,F,hc,hm,hb⟩:=c;refine QX.imp (qx_set hN hi hy (qxe_meth h hc hm F hr hb .nil ha M O ht) hs hf) λE D σ H zz=>?_;obtain⟨B,av,F,γ,o,S,e,ok⟩:=zz;obtain⟨q,e1,e⟩:=Qb e;obtain⟨c,e⟩:=Yn e;obtain⟨xs,e2,e⟩:=Qb e;obtain⟨r,e3,eo⟩:=Qw e;obtain⟨F1,S1,x1,er⟩:=S.see (ms++ns);obtain⟨ks,qs,rfl,hk⟩:=Qle c;refine⟨F1,γ,_,S1.sub,er.left,e1,λv H1 F2 j q1=>?_⟩;have q0:=q1;obtain⟨a,dx,vs,rfl,h2,h3,h4,h5⟩:=q1;refine⟨a,dx,_,rfl,j.sub _ _ h2,Xn hk,F2,γ,xs,j.sub,er.right.mono j.ext,e2,λus H2 F3 U q2=>?_⟩;rw[bu];exact⟨by have:=hn _ _ e3;rw[aG]at this |-;rw[q2.length];exact this,F3,_,r,U.sub,.cons (q0.mono U.ext) q2,e3,QlZ S S1 (j.trans U) eo ok⟩
def QfW(g:List PV->Option (PV ⊕ Addr))(ps:List PV):Option PV:=(g ps).bind λo=>match o with
 |.inl r=>some r
 |.inr _=>none
def passN:Qay (CX2 X.prog X.w) X E0:=λj l H s1 e s' I f=>by
 obtain⟨a,C,d,D,B,_,_,_,_,z⟩:=f;exact cP z
def em_methZ(h:EM X ms o m)(c:Qkw X.prog X.w X.K X.mg X.base k C I n g)(Y:∀ps r,g ps=some r->ps.length=n)(hr:Room k X.A)(ha:AM X ns (e::D) ma)(J:ah (e::D) X.env=(false,eval e X.env)::ah D X.env:=by rfl)(L:(bx l (ah D X.env)).any (·.1)=false:=by rfl)(ht:eval (.Call (.Attribute o I B) (e::D) [] l) X.env=(do
   let M <-eval o X.env
   gG B.atName
   let (f,first) <-holding [M] (fg M I pl)
   gP l f first (bx l (ah (e::D) X.env)) (dI l (ce [] X.env))):=by rfl) :
  EM X (ms++ns) (.Call (.Attribute o I B) (e::D) [] l) (Qhz C I (QfW g) m ma):=by
 obtain⟨f,fd,ps,F,hc,hm,hb⟩:=c;refine PE.imp (QkM h hc hm F hr hb .nil passN ha J L ht) λσ H Q zz=>?_;obtain⟨F,O,r,k1,k2,k3,w⟩:=zz;obtain⟨q,e1,k3⟩:=Qb k3;obtain⟨c,k3⟩:=Yn k3;obtain⟨xs,e2,k3⟩:=Qb k3;obtain⟨ks,qs,rfl,hk⟩:=Qle c;obtain⟨o1,e3,k3⟩:=Qb k3;cases o1 with
 |inr _=>cases k3
 |inl r1 =>
  cases k3;refine⟨F,O,_,k1,k2.left,e1,λv H1 F1 j T=>?_⟩;have q0:=T;obtain⟨a,dx,vs,rfl,h2,h3,h4,h5⟩:=T;refine⟨a,dx,_,rfl,j.sub _ _ h2,Xn hk,F1,O,xs,j.sub,k2.right.mono j.ext,e2,λus H2 F2 E U=>?_⟩;rw[bu];exact⟨by have:=Y _ _ e3;rw[aG]at this |-;rw[U.length];exact this,F2,_,_,E.sub,.cons (q0.mono E.ext) U,e3,w.go (j.trans E)⟩
end
def SR.setUn{K:aa}(S:SR K B D F J H I) i:SR K B D F (J.set i none) H (I.set i .un):=by
 have ne:∀{k:Nat}{x:mQ},(I.set i .un)[k]?=some x->x≠.un->k≠i/\I[k]?=some x:=λ{k x} e z=>by
  have f:k≠i:=λh=>by
   subst h;rw[lT]at e;simp at e;exact z e.2.symm
  rw[aA (Ne.symm f)]at e;exact⟨f,e⟩
 refine⟨S.sub,S.base,S.f0,S.fb,by simpa using S.len,λk p e=>?_,λk xs e=>?_,λk l xs ys a j e1 e2 e3=>?_⟩
 .obtain⟨f,e⟩:=ne e (by intro h;cases h);rw[aA (Ne.symm f)];exact S.fz k p e
 .obtain⟨f,e⟩:=ne e (by intro h;cases h);rw[aA (Ne.symm f)];exact S.ow k xs e
 .obtain⟨f,e1⟩:=ne e1 (by intro h;cases h);obtain⟨hl,e2⟩:=ne e2 (by intro h;cases h);rw[aA (Ne.symm f)]at e3;rw[aA (Ne.symm hl)];exact S.dj k l xs ys a j e1 e2 e3
noncomputable def sufK(i:Nat)(o:Option Out):Option PEnv:=match o with
 |some (.nx f)=>some (f.set i .un)
 |_=>none
def sTry(i:Nat)(Cs:List Addr)(f:MStQ)(l:Addr->Addr->MSt):MSt:=λj=>(f j).bind λo=>match o with
 |.inl o=>some o
 |.inr (γ1,C)=>if Cs.contains C=true then (allB λa=>sufK i (l C a (γ1.set i (.fz (.opq a))))).map .nx else none
section
def sm_try{rest:List lK}(L:X.stack=X.env::X.outer)(M:X.env.frame=some X.env.locals)(hb:∀xe,QMs (X.wish xe) body U)(hs:∀C a J,J.cls = .ref C->Cs.contains C=true->SMs (X.inExc a J) (I::l) (sm C a))(O:∀C,Cs.contains C=true->PySem.W.mroIn X.K C (.ref D)=some true)(hg:Gl X x)(hm:X.mg x=some (.ref D))(hD:XCat X.K D)(hN:X.N.Nodup)(hi:X.N[i]?=some n)(hl:X.env.scope.names.lookup n=some .local)(T:(x=="__debug__")=false:=by decide) :
  SM X (.Try body (.ExceptHandler (some (.Name x np)) (some n) (I::l) Y::rest) [] [] av) (sTry i Cs U sm):=PS.imp (ps_tryX (tb:=tMQ X.K U) L M hb hg hm hD hN hi hl T) λDs σ H zz=>by
 obtain⟨B,f,F,γ,o,S,e,ok⟩:=zz;obtain⟨E,e1,e2⟩:=Qb e;refine⟨B,f,F,γ,E,S,e1,?_⟩;rcases E with E|⟨γ1,C⟩
 .cases e2;exact ok
 .obtain⟨hk,e2⟩:=Yn e2;obtain⟨γ2,e3,rfl⟩:=Qw e2;intro az H' F' S';refine⟨C,rfl,O C hk,λea J hc=>⟨_,hs C ea J hc hk,?_⟩⟩;have j:=QeD e3 ea;unfold sufK at j;split at j
  .rename_i aq e5;cases j;exact⟨B,f,F',_,_,S'.setFz i (by rfl),e5,λaj H3 F3 S3=>ok _ H3 F3 (S3.setUn i)⟩
  .cases j
def mIsE(i:Nat)(a:Addr)(b:Bool):MEx:=λf=>match getV f i with
 |some (.opq j)=>if j=a then some (.bl b) else none
 |_=>none
structure XIs (K:aa) (C:Addr) (d:Value) (b:Bool):Prop where
 cl:XCl K C
 one:PySem.W.kitOne K (.ref C) d=some b
def QiP{X:Cx}(hd:RelV dv d)(f:∀u,RelV dv u->u=d)(hc:l.cls = .ref C)(h:XIs X.K C d b):YQ (X.inExc a l) (.builtin "isinstance") (λvs H Q=>vs=[.ref a,dv]/\Q (.bl b) H):=by
 intro B s J H vs us Q I rs h1;obtain⟨rfl,h2⟩:=h1;obtain⟨u,L,rfl,D,j⟩:=vals2 rs;obtain rfl:=f _ j;obtain rfl:u=cR a:=D;have E:=(I.pin (a,l) (cy _ (aV _ (al.mpr rfl)))).1;exact eB (Qiw h.cl) I.kIn ⟨l,E,hc⟩ h.one (λz=>nomatch z) λtk=>⟨.bl b,H,I.tok tk,rfl,h2⟩
set_option tactic.hygienic true in
def em_isE{X:Cx}(hc:B.cls = .ref C)(h:XIs X.K C (.ref D) b)(he:PE (X.inExc a B) (.Name n p4) (tVar i))(I:Gl X "isinstance")(hm:X.mg "isinstance"=none)(T:Gl X x)(f:X.mg x=some (.ref D))(l:(x=="__debug__")=false:=by decide):EM (X.inExc a B) [i] (.Call (.Name "isinstance" p2) [.Name n p4,.Name x L] [] J) (mIsE i a b) :=
 PE.imp (YF (QiP (dv := .ref D) rfl (λ_ z=>z) hc h) I hm (by kernel_rfl) (ZK he (ZK (QdR (v := .ref D) T f rfl l) Qav (by rfl)) (by rfl)) (by decide) (by decide) (by rfl) (by rfl)) λM H Q j=>by
  obtain⟨F,O,r,k1,k2,k3,w⟩:=j;delta mIsE at k3;split at k3
  .rename_i U E;obtain⟨rfl,rfl⟩:=Qi k3;obtain⟨v,e1,e2⟩:=k2 i (by simp) _ E;subst e2;exact⟨_,e1,rfl,w.here k1 (QB _)⟩
  .cases k3
set_option tactic.hygienic true in
def em_isEB{X:Cx}(hc:I.cls = .ref C)(h:XIs X.K C (.type T) b)(he:PE (X.inExc a I) (.Name n p4) (tVar i))(J:Gl X "isinstance")(hm:X.mg "isinstance"=none)(f:Gl X x)(l:X.mg x=none)(B:cI x=some (.type T))(L:x≠"__name__":=by decide)(D:(x=="__debug__")=false:=by decide):EM (X.inExc a I) [i] (.Call (.Name "isinstance" p2) [.Name n p4,.Name x O] [] M) (mIsE i a b) :=
 PE.imp (YF (QiP (dv := .ty T) rfl (λ_ z=>z) hc h) J hm (by kernel_rfl) (ZK he (ZK (QkN (v := .ty T) f l B rfl L D) Qav (by rfl)) (by rfl)) (by decide) (by decide) (by rfl) (by rfl)) λU H Q j=>by
  obtain⟨F,Y,r,k1,k2,k3,w⟩:=j;delta mIsE at k3;split at k3
  .rename_i a' E;obtain⟨rfl,rfl⟩:=Qi k3;obtain⟨v,e1,e2⟩:=k2 i (by simp) _ E;subst e2;exact⟨_,e1,rfl,w.here k1 (QB _)⟩
  .cases k3
end
structure FunV (K:aa) (x qual:Str) (st:Stmt) (f:Addr) (fd:d9):Prop where
 ex:∃(T:Addr)(oc:Value)(od:Option Addr)(kV doc pm:Value)(an:Option Addr)(cdv ct:Value)(osl:Array (Option Value))(d:Value),
  fd=cD x qual (Qt st) (Qj st) (Qe st) (.ref T) kV doc pm an cdv ct/\K.lookup f=some ⟨oc,od,.func fd,osl⟩/\eM K cdv qual=true /\
  ∃(tc:Value)(td:Option Addr)(tn:Nat)(ts:Array (Option Value)),K.lookup T=some ⟨tc,td,.seq #[d] tn,ts⟩
 kp:bX K (.ref f)=true
def funV_mk{K:aa}{st:Stmt}{kV doc D B ct:Value}(l:K.lookup f=some ⟨J,L,.func (cD x qual (Qt st) (Qj st) (Qe st) (.ref T) kV doc D an B ct),I⟩)(c:eM K B qual=true)(k:bX K (.ref f)=true)(t:K.lookup T=some ⟨tc,M,.seq #[d] O,U⟩):FunV K x qual st f (cD x qual (Qt st) (Qj st) (Qe st) (.ref T) kV doc D an B ct) :=
 ⟨⟨T,J,L,kV,doc,D,an,B,ct,I,d,rfl,l,c,tc,M,O,U,t⟩,k⟩
section
def FunV.ok{P:aY}{K:aa}{st:Stmt}(F:FunV K x qual st f fd)(S:FnScope N ps (Qe st))(len:∀vs H Q E,sp vs H Q E->vs.length=ps.length)(B:∀l A outer s H vs Q E,Room k (A.deeper (cM qual (Qe st) s.heap.objs.size f l))->sp vs H Q E ->
   ∃t,PSs (cxOf CX0 P w K mg base N qual (Qe st) f l A outer s H E).nox (Qj st) t/\t { nx:=λ_ I=>Q .non I,rt:=Q } (YN N vs) H):FnOk P w K mg base CX0 (k+1) f fd ps sp:=by
 obtain⟨T,L,M,kV,doc,O,an,l,ct,J,d,rfl,lk,j,_⟩:=F.ex;refine Qnx lk j S len λA outer s H vs Q E hr D=>?_;obtain⟨t,h,q⟩:=B l A outer s H vs Q E hr D;exact⟨t,h.nox,q⟩
def FunV.binds{K:aa}{st:Stmt}(F:FunV K x qual st f fd)(h:∀dV kV doc B an l ct d us,us.length=ps.length->∃k ,fM (cD x qual (Qt st) (Qj st) (Qe st) dV kV doc B an l ct) ⟨us,[]⟩=seqItems? dV >>= k/\k (some #[d])=pure (ps.zip us)):Zp K fd ps []:=by
 obtain⟨T,E,H,kV,doc,B,an,l,ct,j,d,rfl,lk,D,tc,I,J,L,t⟩:=F.ex;intro s us X hl;rw[bu]at hl |-;obtain⟨k,e1,e2⟩:=h (.ref T) kV doc B an l ct d us hl;exact jj rfl (X _ _ t) rfl e1 e2
end
section
def fnXV0{K:aa}{P:Hp->Hp->Addr->τ->Prop}{st:Stmt}(J:FunV K x qual st f fd)(L:FnScope N ps (Qe st))(M:ps.length=n)(B:∀l A outer s H E,Room k (A.deeper (cM qual (Qe st) s.heap.objs.size f l)) ->
   XMs (cxOf CX0 O w K mg base N qual (Qe st) f l A outer s H E).nox P 0 (Qj st) m):FnOk O w K mg base CX0 (k+1) f fd ps (spX K P n (runX N.length n m)):=by
 refine J.ok L (λvs H Q E h=>by rw[h.1,M]) λl A outer s H vs Q E hr h=>?_;refine⟨_,B l A outer s H E hr,?_⟩;obtain⟨hl,F,G,a,t,us,qs,t',rfl,h1,h2,U,Y,I,D,wv⟩:=h;delta runX at D;have hq:qs.length+1=n:=by rw[<-I.length];exact hl
 rw[au hq]at D;obtain⟨o,e1,e2⟩:=Qb D;have T:SR K H F F (YN N (.ref a::us)) H (QQ N.length (.opq a::qs)):=QaI h1 (.cons (by rfl) I);have j:∀b o,orH (minH H G) G b=some o->H b=some o:=λb o e=>by
  rcases Qck e with z|⟨_,z⟩
  .exact(minH_l z).1
  .exact h2 b o z
 refine⟨minH H G,F,F,G,a,_,t,o,⟨⟨T.sub,j,T.f0,λb o e=>.inl e,T.len,T.fz,λi xs e=>?_,T.dj⟩,?_,Y,λb o e=>?_,U⟩,e1,?_⟩
 .obtain⟨c,vs,k1,k2,k3,k4,k5⟩:=T.ow i xs e;rw[k5]at k2;cases k2
 .rfl
 .delta minH;rw[e]
 .cases o with
  |nx γ t2 =>
   cases e2;intro av H' F' E' S;refine wv H' F' E' ⟨S.sr.f0,S.sr.sub,λb o e=>S.sr.base b o (Qbj (S.db b o e) e),λb o e n=>S.sr.base b o (QfY b o (QkV e n)),λb o e=>?_,λb o e=>QaZ (S.db b o e),S.df⟩ S.own;rcases S.sr.fb b o e with z | z
   .exact .inl z
   .exact .inr ((QaZ (YG z).1).symm)
  |_=>cases e2
end
end L2.PM
namespace L2.PM
open PySem PySem.Spec PyProof.Rows PySem.Builtin PySem.Builtin.Str
section
def Qbn:PV->List PV->Option PV
 |.str x,[.str y]=>some (.bl (cT x y))
 |_,_=>none
def Qmj:MtR X "str.startswith" (rMt X.K Qbn):=by
 intro j s L H x xs v us Q I l rs h;obtain⟨F,p,ps,r,h1,h2,B,f,w⟩:=h;delta Qbn at f;split at f
 .cases f;subst h2;obtain⟨t,rfl⟩:=l;obtain⟨M,O,rfl,D,E⟩:=B;subst E;subst D;obtain⟨u,rfl,J⟩:=Vals.one rs;obtain⟨T,rfl⟩:=J;exact SC.startswith ⟨.bl _,H,I,rfl,w.here h1 (QB _)⟩
 .cases f
def em_starts(h:EM X ms o m)(M:AM X ns (e::I) O)(B:bW o "startswith" X.env (eval o X.env)=eval o X.env:=by rfl)(J:((bx f (ah (e::I) X.env)).all (λx => !x.1)&&(dI f (ce [] X.env)).all (λx=>x.1.isSome)
   && decide ((e::I).length+([]:List d4).length+(if ([]:List d4).isEmpty then 0 else 1)<30))=true:=by rfl)(D:(L.endLine==f.line)=true:=by rfl)(T:ah (e::I) X.env=(false,eval e X.env)::ah I X.env:=by rfl)(l:(bx f (ah I X.env)).any (·.1)=false:=by rfl) :
  EM X (ms++ns) (.Call (.Attribute o "startswith" L) (e::I) [] f) (mMt "str" Qbn m O) :=
 em_mt h M (QfX fq PySem.F.slot_str_startswith PySem.F.type_str_startswith Qmj h M B J D T l)
end
end L2.PM
namespace L2.PM
open PySem PySem.Spec PyProof.Rows
section
def pe_fv(h:PE X e t):PE X (.FormattedValue e (-1) none D) (λl H Q=>t l H λv B=>∃x,v = .str x/\x.length<=aI/\Q (.str x) B):=by
 intro f s l H Q I j;refine FormattedValue_plain (thn (h f s l H _ I j) λu s1 E=>?_);obtain⟨v,B,J,r,x,L,hz,q⟩:=E;subst L;obtain⟨t,rfl⟩:=r;exact formatField_str (λt' tk=>⟨.str x,B,J.tok tk,⟨t',rfl⟩,q⟩) hz
def pe_js2(J:PE X a L)(M:PE X b tb):PE X (.JoinedStr [a,b] O) (λl H Q=>L l H λv B=>∃x,v = .str x/\(fj++x).length<=aI/\tb l B λu D=>∃y,u = .str y/\((fj++x)++y).length<=aI/\Q (.str ((fj++x)++y)) D):=by
 intro f s l H Q I h;refine JoinedStr_many (joinParts_cons (thn (J f s l H _ I h) λu s1 j=>?_));obtain⟨v,B,T,r,x,E,hz,q⟩:=j;subst E;obtain⟨t,rfl⟩:=r;refine⟨hz,joinParts_cons (thn (M f s1 l B _ T q) λu s2 j=>?_)⟩;obtain⟨v2,D,U,Y,y,E,hz2,q2⟩:=j;subst E;obtain⟨t2,rfl⟩:=Y;exact⟨hz2,joinParts_nil ⟨.str _,D,U.tok _,⟨_,rfl⟩,q2⟩ hz2⟩
def pFv:PV->Option PV
 |.str x=>if x.length<=LIM then some (.str x) else none
 |_=>none
def mFv(m:MEx):MEx:=λf=>(m f).bind pFv
def em_fv(h:EM X ms e m):EM X ms (.FormattedValue e (-1) none l) (mFv m):=PE.imp (pe_fv h) λD H Q j=>by
 obtain⟨F,B,r,k1,k2,k3,w⟩:=j;obtain⟨p,e1,e2⟩:=Qb k3;refine⟨F,B,p,k1,k2,e1,λv E I f q=>?_⟩;cases p with
 |str x =>
  obtain⟨c,e2⟩:=Yn (e2);cases e2;exact⟨x,q,aS c Qv,(w.go f).here f.sub (by rfl)⟩
 |_=>cases e2
def pJs:PV->PV->Option PV
 |.str x,.str y=>if (fj++x).length<=LIM/\((fj++x)++y).length<=LIM then some (.str ((fj++x)++y)) else none
 |_,_=>none
def em_js2(B:EM X ms a D)(I:EM X ns b J):EM X (ms++ns) (.JoinedStr [a,b] L) (bin2 pJs D J):=PE.imp (pe_js2 B I) λY H Q E=>by
 obtain⟨F,j,r,k1,k2,k3,w⟩:=E;obtain⟨p,e1,k3⟩:=Qb k3;obtain⟨q,e2,k3⟩:=Qb k3;refine⟨F,j,p,k1,k2.left,e1,λv H1 M f rp=>?_⟩;cases p with
 |str x =>
  cases q with
  |str y =>
   obtain⟨⟨O,T⟩,k3⟩:=Yn (k3);cases k3;refine⟨x,rp,aS O Qv,M,j,_,f.sub,k2.right.mono f.ext,e2,λu H2 F2 l U=>?_⟩;exact⟨y,U,aS T Qv,(w.go (f.trans l)).here l.sub (by rfl)⟩
  |_=>cases k3
 |_=>cases q<;>cases k3
end
def pStr:List PV->Option PV
 |[.int a]=>if a.natAbs<1000000 then some (.str (toString a)) else none
 |_=>none
def Qmp(h:n<1000000):n.log2<1920:=by
 rcases lC n with rfl | f
 .decide
 .refine(kS (by lia)).2 (aF h ?_);exact aS (show 1000000<=2^20 by decide) (dY (by decide) (by decide))
def cm_str:QeH X (.type "str") pStr:=by
 intro j s E H vs us Q I rs h;obtain⟨F,ps,r,h1,h2,f,w⟩:=h;delta pStr at f;split at f
 .obtain⟨c,f⟩:=Yn f;cases f;obtain⟨J,L,rfl,l,B⟩:=h2;subst B;subst l;obtain⟨u,rfl,D⟩:=Vals.one rs;obtain⟨M,rfl⟩:=D;exact P.str_of_int (Qmp c) ⟨.str _,H,I.tok _,⟨_,rfl⟩,w.here h1 (by rfl)⟩
 .cases f
def rNone:MStR:=λ_=>none
section
def rs_none:RMs X E sts rNone:=λf s J H D I l=>by obtain⟨B,j,F,L,o,S,e,ok⟩:=l;cases e
def lkB(tab:List (Addr×Bool))(C:Addr):Bool:=(tab.lookup C).getD false
end
section
def Qge:OpR X (bI .NotIn) (λx y H Q=>∃i j,x = .str i/\y = .str j/\Q (.bl (!(!(iz j i 0 j.length 1).isEmpty))) H):=by
 intro f s D H x y v u Q I l B h;obtain⟨i,j,rfl,rfl,q⟩:=h;obtain⟨t,rfl⟩:=l;obtain⟨t',rfl⟩:=B;exact P.notIn_str (Qdk I q rfl)
def Qgz:PV->PV->Option PV
 |.str a,.str b=>some (.bl (!(!(iz b a 0 b.length 1).isEmpty)))
 |_,_=>none
def om_notInS:OpM X (bI .NotIn) Qgz:=by
 intro f s l H x y v u Q I B D h;obtain⟨F,p,q,r,h1,h2,E,j,w⟩:=h;cases p<;>cases q<;>first
  | (exfalso;cases j;done)
  |skip
 cases j;exact Qge f s l H x y v u Q I B D ⟨_,_,h2,E,w.here h1 (QB _)⟩
end
theorem lb1{α:Type}{P:List α->Prop}(h:∀a,P [a]):∀us,us.length=1->P us
 |[a],_=>h a
theorem lb2{α:Type}{P:List α->Prop}(h:∀a b,P [a,b]):∀us,us.length=2->P us
 |[a,b],_=>h a b
theorem lb3{α:Type}{P:List α->Prop}(h:∀a b c,P [a,b,c]):∀us,us.length=3->P us
 |[a,b,c],_=>h a b c
theorem lb4{α:Type}{P:List α->Prop}(h:∀a b c d,P [a,b,c,d]):∀us,us.length=4->P us
 |[a,b,c,d],_=>h a b c d
section
def kSet(h:EM X f e m)(q:f=ms)(B:X.N.Nodup)(D:X.N[i]?=some x)(I:Loc X.env.scope x)(J:cB e (some (.Name x p2)) l.line X.env=pure false)(hf:X.fn x=true\/X.env.scope.names.lookup x=some .local):SM X (.Assign [.Name x p2] e l) (sSet ms i m):=q▸sm_set B D I h J hf
def kSetO{m:PEnv->Option (List PV)}(h:EO X f e m)(q:f=ms)(B:X.N.Nodup)(D:X.N[i]?=some x)(I:Loc X.env.scope x)(J:cB e (some (.Name x p2)) l.line X.env=pure false)(hf:X.fn x=true\/X.env.scope.names.lookup x=some .local):SM X (.Assign [.Name x p2] e l) (Qm ms i m):=q▸sm_setO B D I h J hf
def kFor(h:IM X f l iter B)(D:GM X O l g)(I:SMs X body sb)(q:f=ms)(J:f7 (model X.prog X.w) X.A X.env X.xe)(hc:X.calm=true)(L:∀x,cb iter X.env x=pure x):SM X (.For l iter body [] M) (sFor ms B g sb):=q▸sm_for J hc h D I L
def kExE(h:EM X f e m)(q:f=ms)(B:cB e none l.line X.env=pure false):SM X (.Expr e l) (sExE ms m):=q▸sm_exE h B
def kApp{l f:Pos}(h:PE X (.Name x p2) (tVar i))(he:EM X J e m)(q:J=ms)(O:bW (.Name x p2) "append" X.env (eval (.Name x p2) X.env)=eval (.Name x p2) X.env)(I:((bx f (ah [e] X.env)).all (λx => !x.1)&&(dI f (ce [] X.env)).all (λx=>x.1.isSome)
      && decide ([e].length+([]:List d4).length+(if ([]:List d4).isEmpty then 0 else 1)<30))=true)(D:(l.endLine==f.line)=true)(M:ah [e] X.env=(false,eval e X.env)::ah [] X.env)(B:(bx f (ah [] X.env)).any (·.1)=false)(hw:cB (.Call (.Attribute (.Name x p2) "append" l) [e] [] f) none L.line X.env=pure false):SM X (.Expr (.Call (.Attribute (.Name x p2) "append" l) [e] [] f) L) (sApp ms i m):=q▸sm_app h he (Qaq (QfX gU PySem.F.slot_list_append PySem.F.type_list_append Qfy h (QiS he M) O I D M B) hw)
def kExM{l f:Pos}(h:PE X (.Name x p2) (tVar i))(he:EM X J e m)(q:J=ms)(O:bW (.Name x p2) "extend" X.env (eval (.Name x p2) X.env)=eval (.Name x p2) X.env)(I:((bx f (ah [e] X.env)).all (λx => !x.1)&&(dI f (ce [] X.env)).all (λx=>x.1.isSome)
      && decide ([e].length+([]:List d4).length+(if ([]:List d4).isEmpty then 0 else 1)<30))=true)(D:(l.endLine==f.line)=true)(M:ah [e] X.env=(false,eval e X.env)::ah [] X.env)(B:(bx f (ah [] X.env)).any (·.1)=false)(hw:cB (.Call (.Attribute (.Name x p2) "extend" l) [e] [] f) none L.line X.env=pure false):SM X (.Expr (.Call (.Attribute (.Name x p2) "extend" l) [e] [] f) L) (sExM ms i m):=q▸sm_exM h he (Qaq (QfX gU PySem.F.slot_list_extend PySem.F.type_list_extend mt_exM h (QiS he M) O I D M B) hw)
def kIns{l f:Pos}(h:PE X (.Name x p2) (tVar i))(T:EM X ns a U)(he:EM X J e m)(q:J=ms)(Y:bW (.Name x p2) "insert" X.env (eval (.Name x p2) X.env)=eval (.Name x p2) X.env)(I:((bx f (ah [a,e] X.env)).all (λx => !x.1)&&(dI f (ce [] X.env)).all (λx=>x.1.isSome)
      && decide ([a,e].length+([]:List d4).length+(if ([]:List d4).isEmpty then 0 else 1)<30))=true)(D:(l.endLine==f.line)=true)(O:ah [a,e] X.env=(false,eval a X.env)::ah [e] X.env)(L:ah [e] X.env=(false,eval e X.env)::ah [] X.env)(B:(bx f (ah [e] X.env)).any (·.1)=false)(hw:cB (.Call (.Attribute (.Name x p2) "insert" l) [a,e] [] f) none M.line X.env=pure false):SM X (.Expr (.Call (.Attribute (.Name x p2) "insert" l) [a,e] [] f) M) (sIns ms i U m):=q▸sm_ins2 h (Qaq (QfX gU jX PySem.F.type_list_insert Qmi h (ins_args T he O L) Y I D O B) hw)
def kStr{f:PEnv->Option (List PV)}{i:Str}{j:Nat}(h:AM X ms l f):AM X ms (.Constant (.str i) j p::l) (Qa (mC (.str i)) f):=am_cons (ms:=[]) em_str h
def kInt{f:PEnv->Option (List PV)}{i:Int}{j:Nat}(h:AM X ms l f):AM X ms (.Constant (.int i) j p::l) (Qa (mC (.int i)) f):=am_cons (ms:=[]) em_int h
def tgN:Expr->List Str
 |.Name x _=>[x]
 |.Tuple f _ _=>f.flatMap fun | .Name x _=>[x] | _=>[]
 |_=>[]
def EU(X:Cx)(n:Nat)(e:Expr)(m:MEx):Prop:=EM X (ao n) e m
def IU(X:Cx)(n:Nat)(f:List Expr)(t:PEnv->Option Bool):Prop:=IfM X (ao n) f t
def Qlo{K:aa}{F:Hp}{f:St}{l:PEnv}{n:Nat}(h:ERep K F f l (ao n))(q:(ls.all λi=>decide (i<n))=true):ERep K F f l ls:=λi j=>h i (a7.mpr (bC (bf.mp q i j)))
def kEU{n:Nat}(h:EM X ls e m)(q:(ls.all λi=>decide (i<n))=true):EU X n e m:=PE.imp h λB H Q f=>by obtain⟨F,j,r,h1,h2,l,w⟩:=f;exact⟨F,j,r,h1,Qlo h2 q,l,w⟩
def kIU{n:Nat}(h:IfM X ls l t)(q:(ls.all λi=>decide (i<n))=true):IU X n l t:=λf s j H Q I B=>by obtain⟨F,D,r,h1,h2,E,w⟩:=B;exact h f s j H Q I ⟨F,D,r,h1,Qlo h2 q,E,w⟩
def GU(X:Cx)(n:Nat)(f:Expr)(g:PV->PEnv->Option PEnv):Prop:=GM X (ao n) f g
def kGU{n:Nat}(h:GM X f l g)(q:f=ao n):GU X n l g:=by subst q;exact h
def kComp{B:List Str}(hn:tgN J++(l.map λi=>X.N.getD i "")=B)(T:(Qcq X.N X.env.scope scope B nt l&&decide B.Nodup)=true)(U:IM X ms J iter Y)(hg:B.Nodup->∀f cl C s H D,GU (YC X f B (Qs X.env.scope scope) cl C s H D) nt J g)(ht:∀f cl C s H D,IU (YC X f B (Qs X.env.scope scope) cl C s H D) B.length L t)(he:∀f cl C s H D,EU (YC X f B (Qs X.env.scope scope) cl C s H D) B.length M m)(O:NoOw g)(hc:X.calm=true)(hs:∀x,cb iter X.env x=pure x)(I:relabel scope X.env=Qs X.env.scope scope):EO X (ms++l) (.ListComp M [⟨J,iter,L,0⟩] scope av) (Qr Y nt l g t m):=have z:=(aN ..).mp T;eo_comp hc (ck_of rfl rfl z.1) (λi h=>a7.mp h) O U (hg (bC z.2)) ht he hs I
def kSetC{B:List Str}(hn:tgN O++(l.map λi=>X.N.getD i "")=B)(ck:(Qcq X.N X.env.scope scope B nt l&&decide B.Nodup)=true)(hi:IM X ms O iter mi)(hg:B.Nodup->∀f cl C s H D,GU (YC X f B (Qs X.env.scope scope) cl C s H D) nt O g)(ht:∀f cl C s H D,IU (YC X f B (Qs X.env.scope scope) cl C s H D) B.length I t)(he:∀f cl C s H D,EU (YC X f B (Qs X.env.scope scope) cl C s H D) B.length J m)(T:NoOw g)(hc:X.calm=true)(hs:∀x,cb iter X.env x=pure x)(L:relabel scope X.env=Qs X.env.scope scope)(hN:X.N.Nodup)(U:X.N[i]?=some y)(hy:X.env.scope.names.lookup y=some .local)(Y:cB (.ListComp J [⟨O,iter,I,0⟩] scope av) (some (.Name y py)) M.line X.env=pure true)(q:ms++l=az):SM X (.Assign [.Name y py] (.ListComp J [⟨O,iter,I,0⟩] scope av) M) (Qm az i (Qr mi nt l g t m)):=have z:=(aN ..).mp ck;q▸Qjb hN U hy hc (ck_of rfl rfl z.1) (λi h=>a7.mp h) T hi (hg (bC z.2)) ht he Y hs L
def kCal{n k I:Nat}{g:List PV->Option PV}{J:PEnv->Option (List PV)}(c:Cal X.prog X.w X.K X.mg X.base k x n g)(L:AM X ms (e::f) J)(M:∀ps r,g ps=some r->ps.length=n)(hr:Room I X.A)(O:k<=I)(T:Gl X x)(l:(x==("__debug__":Str))=false)(he:ah (e::f) X.env=(false,eval e X.env)::ah f X.env)(B:(bx D (ah f X.env)).any (·.1)=false):EM X ms (.Call (.Name x p) (e::f) [] D) (Qc g J):=em_cal c M (hr.mono O) T L l he B
def kCalD{n k D j:Nat}{g:List PV->Option PV}(c:CalD X.prog X.w X.K X.mg X.base k x n j g)(I:AM X ms [e] (Qa m aNil))(J:∀ps r,g ps=some r->ps.length=n)(hr:Room D X.A)(L:k<=D)(M:Gl X x)(f:(x==("__debug__":Str))=false)(he:ah [e] X.env=(false,eval e X.env)::ah [] X.env)(l:(bx B (ah [] X.env)).any (·.1)=false):EM X ms (.Call (.Name x p) [e] [] B) (Qc g (Qa m (Qa (mN j) aNil))):=em_calD c J (hr.mono L) M I f he l
def scN(s:fN):List Str:=(s.names.filter λx=>x.2==.local||x.2==.cell).map (·.1)
def fnK{P:aY}{w:cf}{K:aa}{mg:Str->Option Value}{base:Heap}{x qual:Str}{st:Stmt}{f:Addr}{fd:d9}{ps:List Str}{k n L:Nat}{m:MSt}{body:List Stmt}(I:Fun K x qual st f fd)(hl:(scN (Qe st)).length=L)(J:ps.length=n)(D:FnScope (scN (Qe st)) ps (Qe st))(M:Qj st=body)(l:(scN (Qe st)).Nodup->∀(B:Value) (A:dm) (outer:List Env) (s:aC) (H:Hp) (E:XK),Room k (A.deeper (cM qual (Qe st) s.heap.objs.size f B))->SMs (cxOf CX0 P w K mg base (scN (Qe st)) qual (Qe st) f B A outer s H E).nox body m):FnOk P w K mg base CX0 (k+1) f fd ps (spM K n (runV L n m)):=by subst M;exact hl▸fnM I D J (l D.nd)
def fnKD{P:aY}{w:cf}{K:aa}{mg:Str->Option Value}{base:Heap}{x qual:Str}{st:Stmt}{f:Addr}{fd:d9}{j:Int}{ps:List Str}{k n L:Nat}{m:MSt}{body:List Stmt}(I:FunD K x qual st f fd j)(hl:(scN (Qe st)).length=L)(J:ps.length=n)(D:FnScope (scN (Qe st)) ps (Qe st))(M:Qj st=body)(l:(scN (Qe st)).Nodup->∀(B:Value) (A:dm) (outer:List Env) (s:aC) (H:Hp) (E:XK),Room k (A.deeper (cM qual (Qe st) s.heap.objs.size f B))->SMs (cxOf CX0 P w K mg base (scN (Qe st)) qual (Qe st) f B A outer s H E).nox body m):FnOk P w K mg base CX0 (k+1) f fd ps (spM K n (runV L n m)):=by subst M;exact hl▸fnMD I D J (l D.nd)
end
end L2.PM
namespace HD
open PySem PySem.W PySem.Calls PyProof.Rows L2
def defPos(s:Stmt):Pos:=match s with
 |.FunctionDef _ _ _ _ _ _ _ _ _ c=>c
 |_=>⟨0,0,0,0⟩
def opens{l:mR}{K:cf->ib->Frag}{as:List Addr}{st:Stmt}{N:Nat}(ws:lH l=true)(e:opening l.prog=plainProg l.prog.main.scope.names)(f:∀s,fenceModules? l.prog s=some s)(B:Nat.ble 600 N=true)(one:∀(w:cf) (os:ib),end_ l.prog (only l.prog st) as w os N=some (true,openGood (only l.prog st) (XV l.prog),true))(hK:K=kof l.prog as N)(hd:defOf (only l.prog st) l.name=some (⟨l.name,Qt st,Qj st,Qe st,defPos st⟩,[]))(D:l.prog.theDef l.name=some (Qt st,Qj st,Qe st))(I:kwWritten? (Qt st).kwonlyargs (Qt st).kw_defaults=some [])(ok:(chainsOk (only l.prog st)&&opensWell l.prog&&(frees l.row.toRowW&&l.row.within.isEmpty))=true)(J:l.prog.bare)(hw:l.row.toRowW.promised)(go:WalkO (only l.prog st) (XV l.prog) (λ_ _=>True) (λw h=>(K w (osOf l.prog N w)).In h) l.row.toRowW ⟨l.name,Qt st,Qj st,Qe st,defPos st⟩ [] λf vs=>lz f vs):l.Holds:=by
 rw[<-Fast.te9446332074065402090]at ws;subst hK;exact holds_law ws λk=>holds_open (r:=l.row) (left e f B one) (λ_ _=>Frag.in_of (by delta kof;rw[aH];exact(List.map_id _).symm)) (λ_ _ _=>Frag.In.keeps) (λ_ _=>trivial) (λ_ _ _ _ _=>trivial) hd D I (λs _=>recFacts_of (R:=[]) rfl) (hU _) k ok J hw go
def walkW{l:mR}{n k:Nat}{q:aY}{B:List Str}{XP:(Str->Option Value)->Heap->Prop}{d:DefRec}{K:cf->Frag}{sp:Frag->Sp}{x:Str}(hn:l.most=some n)(J:n<=aI)(L:d.params.defaults=[])(hr:Room k jE)(F:∀(w:cf) (mg:Str->Option Value) (I:Addr) (h:Heap),(K w).In h->h.Ns dt mg->mg d.name=some (.ref I) ->
   ∃fd:d9,(∀(s:aC) (u:Value),mn s fd ⟨[u],[]⟩ [(x,u)])/\∀base:Heap,(K w).In base->base.Ns dt mg->FnOk l.prog w (K w) mg base CX0 k I fd [x] (sp (K w)))(M:∀(K:Frag) (H:Hp) (a:Addr) (ns:List Int),ns.length<=n->SqL K H a (ns.map V.int)->sp K [.ref a] H (λv _=>v = .bl true) λ_ _ _=>False) :
  WalkO q B XP (λw h=>(K w).In h) l.row.toRowW d [] (λf vs=>lz f vs):=by
 refine Att.attach_call hn L λw s₀ U mg mb I o pm cd doc a vs ns G Y ho hd av O E D j hg=>?_;obtain⟨fd,hb,hF⟩:=F w mg I _ Y G.T.g O;exact law_call Y G.T.g G.T.b G.T.builtins G.T.nolimit hg E D (aS j J) hr hF hb (λH _ hS=>M _ H a ns j hS) λ_ _ _ z=>z
noncomputable def fv(K:Frag)(f:Addr):Option (d9×Bool):=match K.lookup f with
 |some ⟨_,_,.func d,_⟩=>some ({ d with kwdefaults := .none,doc := .none,pyModule := .none,annotations:=none,code := .none,closureTuple := .none },codeIn K d.code d.qualname)
 |_=>none
def fe(x q:Str)(st:Stmt)(dV:Value):Option (d9×Bool):=some (fnOf x q (Qt st) (Qj st) (Qe st) dV .none .none .none none .none .none,true)
set_option tactic.hygienic true in
def QgZ{K:Frag}{f:Addr}{x q:Str}{st:Stmt}{dV:Value}(h:fv K f=fe x q st dV):∃D I kV doc J an B ct l,K.lookup f=some ⟨D,I,.func (fnOf x q (Qt st) (Qj st) (Qe st) dV kV doc J an B ct),l⟩/\codeIn K B q=true/\keepIn K (.ref f)=true:=by
 delta fv at h;split at h
 .rename_i D I d l e;obtain⟨n,H,ps,b,L,g,cl,df,j,doc,J,an,E,ct,bl⟩:=d;have h2:=congrArg Prod.snd (br h);have h1:=congrArg jH (br h);cases h1;exact⟨D,I,j,doc,J,an,E,ct,l,e,h2,by delta keepIn;dsimp only;rw[e]⟩
 .cases h
def Qks{K:Frag}{f:Addr}{x q:Str}{st:Stmt}(h:fv K f=fe x q st .none):∃fd,Fun K x q st f fd:=by
 obtain⟨_,_,_,_,_,_,_,_,_,l,c,k⟩:=QgZ h;exact⟨_,fun_mk l c k⟩
def dv(K:Frag)(x:Str):Option (d9×Bool):=match nsIn K dt x with
 |some (some (.ref f))=>fv K f
 |_=>none
set_option tactic.hygienic true in
def df_of{K:Frag}{x:Str}{st:Stmt}(h:dv K x=fe x x st .none):∃f fd,nsIn K dt x=some (some (.ref f))/\Fun K x x st f fd:=by
 delta dv at h;split at h
 .rename_i f e;obtain⟨fd,F⟩:=Qks h;exact⟨f,fd,e,F⟩
 .cases h
def mv(K:Frag)(C:Addr)(m:Str):Option (Bool×d9×Bool):=match jf K (.ref C) m with
 |some (some (.ref f))=>(fv K f).map λx=>(isFn K (.ref f),x)
 |_=>none
set_option tactic.hygienic true in
def mt_of{K:Frag}{C:Addr}{m q:Str}{st:Stmt}(h:mv K C m=(fe m q st .none).map λx=>(true,x)):∃f fd,Meth K C m f/\Fun K m q st f fd:=by
 delta mv at h;split at h
 .rename_i f e;cases h1:fv K f with
  |none=>rw[h1]at h;cases h
  |some x =>
   rw[h1]at h;have h2:=br h;obtain⟨fd,F⟩:=Qks (h1.trans (congrArg some (congrArg Prod.snd h2)));exact⟨f,fd,⟨e,congrArg jH h2,F.kp⟩,F⟩
 .cases h
def nm:Stmt->Str
 |.FunctionDef n ..=>n
 |_=>""
def an(st:Stmt):List Str:=(Qt st).args.map (·.arg)
def mapE{α B:Type}{f g:α->B}{l:List α}(h:l.map f=l.map g):∀a,a∈l->f a=g a:=List.map_inj_left.mp h
theorem lb5{α:Type}{P:List α->Prop}(h:∀a b c d e,P [a,b,c,d,e]):∀us,us.length=5->P us
 |[a,b,c,d,e],_=>h a b c d e
def cnE{α B:Type}[BEq α][LawfulBEq α]{f g:α->B}{l:List α}(h:l.map f=l.map g):∀a,l.contains a=true->f a=g a:=λa j=>mapE h a (by simpa using j)
theorem lkE{D:Type}{f:Str->D}{g:Nat->D}:∀{l:List (Str×Nat)}{x:Str},l.map (λy=>f y.1)=l.map (λy=>g y.2)->(l.lookup x).isSome=true->f x=g ((l.lookup x).getD 0)
 | (a,j)::l,x,h,B=>by
  rw[ba,ba]at h;injection h with h1 h2
  rw[a6]at B |-;cases e:x==a with
  |true=>rw[bg.mp e];exact h1
  |false=>rw[e]at B;exact lkE h2 B
def iv:Option Value->Option Int
 |some (.int v _)=>some v
 |_=>none
def in_of{o:Option (Option Value)}{v:Int}(h:o.bind iv=some v):∃t,o=some (some (.int v t)):=by
 match o,h with
 |some (some (.int _ t)),h=>cases h;exact⟨t,rfl⟩
end HD
namespace L2.PM
open PySem PySem.Spec PyProof.Rows
section
def ecast(h:EM X ns e m)(q:ns=ms):EM X ms e m:=q▸h
def acast(h:AM X ns f l)(q:ns=ms):AM X ms f l:=q▸h
def icast(h:IM X ns f iter l)(q:ns=ms):IM X ms f iter l:=q▸h
end
section
def fnKR{P:aY}{K:aa}{st:Stmt}{ps:List Str}{m:MStR}(I:Fun K x qual st f fd)(hl:(scN (Qe st)).length=L)(J:ps.length=n)(D:FnScope (scN (Qe st)) ps (Qe st))(M:Qj st=body)(l:(scN (Qe st)).Nodup->∀(B:Value) (A:dm) (outer:List Env) (s:aC) (H:Hp) (E:XK),Room k (A.deeper (cM qual (Qe st) s.heap.objs.size f B))->RMs (cxA P w K mg base (scN (Qe st)) qual (Qe st) f B A outer s H E) E body m):FnOk P w K mg base (CX2 P w) (k+1) f fd ps (spR K n (runR L n m)):=by subst M;exact hl▸fnRA I D J (l D.nd)
def fnKX{P:aY}{K:aa}{st:Stmt}{ps:List Str}{D:Type}{Q:Hp->Hp->Addr->D->Prop}{m:MX D}(J:Fun K x qual st f fd)(hl:(scN (Qe st)).length=L)(M:ps.length=n)(I:FnScope (scN (Qe st)) ps (Qe st))(O:Qj st=body)(l:(scN (Qe st)).Nodup->∀(B:Value) (A:dm) (outer:List Env) (s:aC) (H:Hp) (E:XK),Room k (A.deeper (cM qual (Qe st) s.heap.objs.size f B))->XMs (cxOf CX0 P w K mg base (scN (Qe st)) qual (Qe st) f B A outer s H E).nox Q 0 body m):FnOk P w K mg base CX0 (k+1) f fd ps (spX K Q n (runX L n m)):=by subst O;exact hl▸fnX J I M (l I.nd)
def fnKV{P:aY}{K:aa}{st:Stmt}{ps:List Str}{D:Type}{Q:Hp->Hp->Addr->D->Prop}{m:MX D}(J:FunV K x qual st f fd)(hl:(scN (Qe st)).length=L)(M:ps.length=n)(I:FnScope (scN (Qe st)) ps (Qe st))(O:Qj st=body)(l:(scN (Qe st)).Nodup->∀(B:Value) (A:dm) (outer:List Env) (s:aC) (H:Hp) (E:XK),Room k (A.deeper (cM qual (Qe st) s.heap.objs.size f B))->XMs (cxOf CX0 P w K mg base (scN (Qe st)) qual (Qe st) f B A outer s H E).nox Q 0 body m):FnOk P w K mg base CX0 (k+1) f fd ps (spX K Q n (runX L n m)):=by subst O;exact hl▸fnXV0 J I M (l I.nd)
end
end L2.PM
namespace K62
open PySem PySem.Spec PySem.W PyProof.Rows L2 L2.PM HD
def cc:=famC [371,399,423,449,468,694,0,0,0,0,160,180,0,0,0,0,240,252,264,276,288,300,312]
noncomputable def blt:List Str:=["ValueError","all","any","enumerate","isinstance","len","list","min","range","reversed","set","sorted","str","tuple"]
noncomputable def cst:List (Str×Int):=[("MOST_GUESSES",8),("MOST_IN_BODY",6),("MOST_LETTERS",12),("MOST_RULES",40),("MOST_WORDS",30)]
noncomputable def nam:List (Str×Nat):=[("Lot",0),("Settled",1),("Sure",2),("Maybe",3),("Never",4),("Desk",5),("HallError",10),("RowError",11),("NotTurn",16),("NoDoubt",17),("NoReply",18),("NoAsk",19),("NoWord",20),("NotGuess",21),("NotTold",22)]
noncomputable def idx:List Nat:=[2,3,4,5,7,8,9,10,11,13,14,15,17,18,19,20,21,22,23,41,42,43,45,51,59,60,61,63,64,65,66,67,68,69,70,71,72,73,74,75,76,78,79,80,81,82,83,84,85,86,87,88,92,93,94,95,96,97,98,99,100,101,102,103,104,105,106,107]
def cls:List Addr:=[cc 1,cc 2,cc 3,cc 4,cc 5]
def fds:List Str:=["word","name","reason","pairs","camp","other","lines","names","book"]
def mts:List (Nat×Str×Str×Stmt):=[(1,"shown","Settled.shown",Zj (top 47) 1),(1,"__init__","Settled.__init__",Zj (top 47) 0),(2,"shown","Sure.shown",Zj (top 48) 1),(2,"__init__","Sure.__init__",Zj (top 48) 0),(3,"shown","Maybe.shown",Zj (top 49) 1),(3,"__init__","Maybe.__init__",Zj (top 49) 0),(4,"shown","Lot.shown",Zj (top 46) 2),(4,"__init__","Never.__init__",Zj (top 50) 0),(5,"keep","Desk.keep",Zj (top 90) 1),(5,"ask","Desk.ask",Zj (top 90) 3)]
def xss:List Addr:=[cc 19,cc 20,cc 21]
def tab:List (Value×List (Addr×Bool)):=[(.ref (cc 21),[false,false,true]),(.ref (cc 20),[false,true,false]),(.ref (cc 19),[true,false,false]),(.ref (cc 22),[false,false,false]),(.ref (cc 11),[false,false,false]),(.ref (cc 18),[false,false,false]),(.ref (cc 17),[false,false,false]),(.ref (cc 16),[false,false,false]),(.type "ValueError",[true,true,true])].map λ(t,b)=>(t,xss.zip b)
structure Bd (P:aY) (w:cf) (K:Frag) (mg:Str->Option Value) (base:Heap):Prop where
 ex:(∃w o,K=kk w o)/\∃h,K.In h/\h.Ns dt mg
structure Txt (K:Frag) (mg:Str->Option Value):Prop where
 b:∀x,blt.contains x=true->mg x=none
 i:∀x v,cst.contains (x,v)=true->∃t,mg x=some (.int v t)
 z:∃a,mg "NO_WORDS"=some (.ref a)/\GT K a ["guess","unless","if"]
 n:∀x,(nam.lookup x).isSome=true->mg x=some (.ref (cc ((nam.lookup x).getD 0)))
 d:∀i,idx.contains i=true->∃f fd,mg (nm (top i))=some (.ref f)/\Fun K (nm (top i)) (nm (top i)) (top i) f fd
 c:∀D,cls.contains D=true->Cls K D/\makesIn K D=true/\keepIn K (.ref D)=true/\∀x,fds.contains x=true->XX K D x
 m:∀(i:Nat)(x:Nat×Str×Str×Stmt),mts[i]?=some x->∃f fd,Meth K (cc x.1) x.2.1 f/\Fun K x.2.1 x.2.2.1 x.2.2.2 f fd
 x:∀D,xss.contains D=true->XNew K D/\mq K D (.ref (cc 10))=some true/\∀t l,tab.contains (t,l)=true->XIs K D t (lkB l D)
 h:XCat K (cc 10)
 o:specialIn K (.ref (cc 0)) "__getattribute__"=some (some (.builtin "type.__getattribute__"))/\readsIn K (cc 0) (.type "type")=true/\findCls K (.ref (cc 0)) (.type "type") "__init__"=some (.val (.ref 354))/\∃fd,Fun K "__init__" "Lot.__init__" (Zj (top 46) 0) 354 fd
 v:∃fd,FunV K "__init__" "Desk.__init__" (Zj (top 90) 0) 672 fd/\jf K (.ref (cc 5)) "__init__"=some (some (.ref 672))/\isFn K (.ref 672)=true
 d_read_row:∃fd,mg "read_row"=some (.ref 501)/\FunD K "read_row" "read_row" (top 62) 501 fd 0
 d_camps:∃fd,mg "camps"=some (.ref 150)/\FunD K "camps" "camps" (top 25) 150 fd 0
def fx{P:aY}{w:cf}{K:Frag}{mg:Str->Option Value}{base:Heap}(B:Bd P w K mg base):Txt K mg:=by
 obtain⟨⟨p,os,rfl⟩,h,X,G⟩:=B.ex;have A:∀D,(cc 10::xss).contains D=true->XCl (kk p os) D:=λD E =>
  have z:=cnE (f:=λD=>(jf (kk p os) (.ref D) "__getattribute__",jf (kk p os) (.ref D) "__getattr__",mq (kk p os) D (.type "BaseException"),mq (kk p os) D (.type "object"),jf (kk p os) (.ref D) "__class__")) (g:=λ_=>(some (some (.builtin "BaseException.__getattribute__")),some none,some true,some true,some (some (.builtin "object.__class__")))) (l:=cc 10::xss) (by kernel_rfl) D E
  ⟨congrArg (·.1) z,congrArg (·.2.1) z,congrArg (·.2.2.1) z,congrArg (·.2.2.2.1) z,congrArg (·.2.2.2.2) z,by kernel_rfl,by kernel_rfl⟩
 exact⟨λx H=>mg_none_of X G (cnE (f:=nsIn (kk p os) dt) (g:=λ_=>some none) (l:=blt) (by kernel_rfl) x H),
  λx v H=>(in_of (cnE (f:=λx=>(nsIn (kk p os) dt x.1).bind iv) (g:=λx=>some x.2) (l:=cst) (by kernel_rfl) _ H)).imp λt e=>mg_of X G e,
  ⟨476,mg_of X G (by kernel_rfl),_,_,_,(by kernel_rfl:(kk p os).lookup 476=some ⟨(.type "tuple"),none,(.seq #[(.str "guess" 810),(.str "unless" 811),(.str "if" 812)] 0),#[]⟩),rfl,rfl,rfl,(by decide:3<=aI),.cons ⟨_,rfl⟩ (.cons ⟨_,rfl⟩ (.cons ⟨_,rfl⟩ .nil))⟩,
  λx H=>mg_of X G (lkE (f:=λx=>nsIn (kk p os) dt x) (g:=λj=>some (some (.ref (cc j)))) (by kernel_rfl) H),
  λi I=>have⟨f,fd,a,F⟩:=df_of (cnE (f:=λi=>dv (kk p os) (nm (top i))) (g:=λi=>fe (nm (top i)) (nm (top i)) (top i) .none) (l:=idx) (by kernel_rfl) i I);⟨f,fd,mg_of X G a,F⟩,
  λD E=>have z:=cnE (f:=λD=>(plainGet (kk p os) D fj,hasDictIn (kk p os) D,plainOver (kk p os) D,jf (kk p os) (.ref D) "__setattr__",makesIn (kk p os) D,keepIn (kk p os) (.ref D),fds.map (jf (kk p os) (.ref D)))) (g:=λ_=>(true,true,true,some (some (.builtin "object.__setattr__")),true,true,fds.map λ_=>some none)) (l:=cls) (by kernel_rfl) D E
   ⟨⟨congrArg (·.1) z,congrArg (·.2.1) z,congrArg (·.2.2.1) z,congrArg (·.2.2.2.1) z⟩,congrArg (·.2.2.2.2.1) z,congrArg (·.2.2.2.2.2.1) z,cnE (congrArg (·.2.2.2.2.2.2) z)⟩,
  λi x I=>mt_of (mapE (f:=λx=>mv (kk p os) (cc x.1) x.2.1) (g:=λx=>(fe x.2.1 x.2.2.1 x.2.2.2 .none).map λx=>(true,x)) (l:=mts) (by kernel_rfl) x (bT I)),
  λD E=>have z:=cnE (f:=λD=>(excIn (kk p os) D valB "ValueError.__new__",mq (kk p os) D (.ref (cc 10)),tab.map λ(t,_)=>kitOne (kk p os) (.ref D) t)) (g:=λD=>(true,some true,tab.map λ(_,l)=>some (lkB l D))) (l:=xss) (by kernel_rfl) D E
   ⟨(congrArg jH z :),congrArg (·.2.1) z,λt bs J=>⟨A D (by rw[iS,E,hU]),cnE (f:=λ(t,_)=>kitOne (kk p os) (.ref D) t) (g:=λ(_,l)=>some (lkB l D)) (congrArg (·.2.2) z) (t,bs) J⟩⟩,
  ⟨A _ rfl,by kernel_rfl⟩,
  ⟨by kernel_rfl,by kernel_rfl,by kernel_rfl,Qks (by kernel_rfl)⟩,
  by obtain⟨_,_,_,_,_,_,_,_,_,l,c,k⟩:=QgZ (dV := .ref 665) (by kernel_rfl:fv (kk p os) 672=fe "__init__" "Desk.__init__" (Zj (top 90) 0) _);exact⟨_,funV_mk l c k (by kernel_rfl:(kk p os).lookup 665=some ⟨(.type "tuple"),none,(.seq #[(.str "" 1052)] 0),#[]⟩),by kernel_rfl,by kernel_rfl⟩,
  by obtain⟨_,_,_,_,_,_,_,_,_,l,c,k⟩:=QgZ (dV := .ref 494) (by kernel_rfl:fv (kk p os) 501=fe "read_row" "read_row" (top 62) _);exact⟨_,mg_of X G (by kernel_rfl),Qli l c k (by kernel_rfl:(kk p os).lookup 494=some ⟨(.type "tuple"),none,(.seq #[(.int 0 843)] 0),#[]⟩)⟩,
  by obtain⟨_,_,_,_,_,_,_,_,_,l,c,k⟩:=QgZ (dV := .ref 145) (by kernel_rfl:fv (kk p os) 150=fe "camps" "camps" (top 25) _);exact⟨_,mg_of X G (by kernel_rfl),Qli l c k (by kernel_rfl:(kk p os).lookup 145=some ⟨(.type "tuple"),none,(.seq #[(.int 0 362)] 0),#[]⟩)⟩⟩
end K62
namespace L2.PM
open PySem PySem.Spec PyProof.Rows
def QjJ(h1 : -(2^64)<j)(h2:j<2^64):cMul i j=true:=by
 delta cMul;rw[dR];exact .inr (QeZ ⟨h1,h2⟩)
def Qnc(h1 : -(2^64)<i)(h2:i<2^64):cMul i j=true:=by
 delta cMul;rw[dR];exact .inl (QeZ ⟨h1,h2⟩)
theorem pAdd_i i j:pAdd (.int i) (.int j)=some (.int (i+j)):=rfl
def pSub_i i j:pSub (.int i) (.int j)=some (.int (i-j)):=rfl
theorem pMul_l(h1 : -(2^64)<i)(h2:i<2^64):pMul (.int i) (.int j)=some (.int (i*j)):=au (Qnc h1 h2)
def pMul_r(h1 : -(2^64)<j)(h2:j<2^64):pMul (.int i) (.int j)=some (.int (i*j)):=au (QjJ h1 h2)
theorem pMod_i(h:0<j):pMod (.int i) (.int j)=some (.int (i%j)):=au (a8 h)
theorem pDiv_i(h:0<j)(h2:j<2^200):pDiv (.int i) (.int j)=some (.int (i/j)):=au (QeZ ⟨h,h2⟩)
def pLt_i i j:pLt (.int i) (.int j)=some (.bl (decide (i<j))):=rfl
def pLe_i i j:pLe (.int i) (.int j)=some (.bl (decide (i<=j))):=rfl
def pGt_i i j:pGt (.int i) (.int j)=some (.bl (decide (j<i))):=rfl
def pGe_i i j:pGe (.int i) (.int j)=some (.bl (decide (j<=i))):=rfl
def pAnd_i i j:pAnd (.int i) (.int j)=some (.int (jc i j)):=rfl
def pOr_i i j:pOr (.int i) (.int j)=some (.int (gl i j)):=rfl
def pShl_one(h0:0<=k)(h1:k<=1000000):pShl (.int 1) (.int k)=some (.int (2^k.toNat)):=by
 have e:pShl (.int 1) (.int k)=some (.int (1*2^k.toNat)):=au (QeZ ⟨h0,h1,by decide⟩);rw[e,Int.one_mul]
def pShr_i(h0:0<=k):pShr (.int i) (.int k)=some (.int (i/2^k.toNat)):=au (a8 h0)
def okv_int i:okv (.int i)=true:=by simp[okv,dep,okS]
def Qar(h:ar s=true):okv (.str s)=true:=by simp[okv,dep,okS,h]
def QeT(h1:okv p=true)(h2:okv q=true):pEq p q=some (.bl (peq p q)):=au ⟨h1,h2⟩
def pNe_ok(h1:okv p=true)(h2:okv q=true):pNe p q=some (.bl (!peq p q)):=au ⟨h1,h2⟩
def pEq_i i j:pEq (.int i) (.int j)=some (.bl (i==j)):=by rfl
def pNe_i i j:pNe (.int i) (.int j)=some (.bl (!(i==j))):=by rfl
def pIs_non p:pIs p .non=some (.bl (isN p)):=by cases p<;>rfl
def pIsNot_non p:QgU p .non=some (.bl (!isN p)):=by cases p<;>rfl
def Zh(h:n<=100000):n<=LIM:=aS h (by decide)
def Qkn(h:n<=100000):n<LIM:=iQ h (by decide)
def keepE_true ms f:Qx true ms f=f:=rfl
def keepE_false ms f:Qx false ms f=frz ms f:=rfl
def flat_int i:flat (.int i)=true:=rfl
def flat_bl i:flat (.bl i)=true:=rfl
def flat_str i:flat (.str i)=true:=rfl
def flat_non:flat .non=true:=rfl
def flat_tup i:flat (.tup i)=false:=rfl
def flat_lst i:flat (.lst i)=false:=rfl
def allflat_ints(ns:List Int):(ns.map PV.int).all flat=true:=by simp[flat]
def allflat_strs(ns:List Str):(ns.map PV.str).all flat=true:=by simp[flat]
def pIx_lst xs i:pIx (.lst xs) (.int i)=atI xs i:=rfl
def pIx_tup xs i:pIx (.tup xs) (.int i)=atI xs i:=rfl
theorem QaP{α:Type} f b y :
  ∀(xs:List α),(∀x∈xs,∃γ1,g (f x) l=some γ1/\t γ1=some (b x)/\(b x=true->e γ1=some (y x)))->YO g t e l (xs.map f)=some ((xs.filter b).map y)
 |[],_=>rfl
 |x::xs,h=>by
  obtain⟨γ1,h1,h2,j⟩:=h x bB;have B:=QaP f b y xs λz hz=>h z (ax _ hz);rw[ba,YO,h1,a9,h2,a9];grind
def Ql{α:Type} f y (xs:List α) (h:∀x∈xs,∃γ1,g (f x) l=some γ1/\e γ1=some (y x)):YO g QH e l (xs.map f)=some (xs.map y):=by
 have:=QaP (t:=QH) f (λ_=>true) y xs λx j=>by
  obtain⟨γ1,h1,h2⟩:=h x j;exact⟨γ1,h1,rfl,λ_=>h2⟩
 rw[this,List.filter_eq_self.mpr (λ_ _=>rfl)]
theorem QiD{α D:Type} f step (R:D->PEnv->Prop) :
  ∀(xs:List α) acc l,R acc l->(∀acc l x,x∈xs->R acc l->∃γ1 γ2,g (f x) l=some γ1/\b γ1=some (.nx γ2)/\R (step acc x) γ2)->∃B,forL g b (xs.map f) l=some (.nx B)/\R (xs.foldl step acc) B
 |[],acc,l,r,_=>⟨l,rfl,r⟩
 |x::xs,acc,l,r,h=>by
  obtain⟨γ1,γ2,h1,h2,j⟩:=h acc l x bB r;obtain⟨B,e,E⟩:=QiD f step R xs (step acc x) γ2 j λa l z hz=>h a l z (ax _ hz);refine⟨B,?_,E⟩;rw[ba,forL,h1,a9,h2,a9];exact e
theorem ZL{α:Type} f (R:List α->PEnv->Prop) xs :
  ∀ys pre l,pre++ys=xs->R pre l->(∀pre x post l,pre++x::post=xs->R pre l->∃γ1 γ2,g (f x) l=some γ1/\b γ1=some (.nx γ2)/\R (pre++[x]) γ2)->∃B,forL g b (ys.map f) l=some (.nx B)/\R xs B
 |[],pre,l,e,r,_=>by
  rw[bu]at e;subst e;exact⟨l,rfl,r⟩
 |x::ys,pre,l,e,r,h=>by
  obtain⟨γ1,γ2,h1,h2,j⟩:=h pre x ys l e r;obtain⟨B,D,E⟩:=ZL f R xs ys (pre++[x]) γ2 (by rw[gC];exact e) j h;refine⟨B,?_,E⟩;rw[ba,forL,h1,a9,h2,a9];exact D
def pJoin_s(h:(ss.map cw).sum+ss.length*f.length<=LIM):Qbi (.str f) [.lst (ss.map .str)]=some (.str (a5 f ss)):=by
 show(match PM.strs? (ss.map PV.str) with
  |some ys=>if (ys.map cw).sum+ys.length*f.length<=LIM then some (PV.str (a5 f ys)) else none
  |none=>none)=_
 rw[PM.strs?_map];exact au h
def pw(f:List Nat):Nat:=(f.map λi=>2^i).sum
def Qcz(m:Nat):Nat:=if m=0 then 0 else m.log2+1
def plN(m:Nat):List Nat:=(ao (Qcz m)).filter λk=>m.testBit k
def Qgb(h:m.testBit k=true):k<Qcz m:=by
 have h1 :=Nat.ge_two_pow_of_testBit h;have h0:m≠0:=by
  rintro rfl;simp at h
 delta Qcz;rw[aK h0];have:=(Nat.le_log2 h0).mpr h1;omega
def Qas:k∈plN m↔m.testBit k=true:=by
 delta plN;rw[bc,a7];exact⟨λh=>h.2,λh=>⟨Qgb h,h⟩⟩
def plN_asc m:(plN m).Pairwise (· < ·):=fR _ eh
def asc_eq{a b:List Nat}(f:a.Pairwise (· < ·))(l:b.Pairwise (· < ·))(h:∀x,x∈a↔x∈b):a=b:=by
 have j :=f.imp λh=>aL h;have B :=l.imp λh=>aL h;have p :=(gu j B).mpr h;exact eU (λx y _ _ h1 h2=>absurd (ft h1 h2) (b4 _)) f l p
def QhC(m:Nat):gE m=Qcz m:=by
 delta gE Qcz;by_cases h:m=0
 .subst h;rfl
 .simp
def Qmd(m:Nat):Qhw (.int m) []=some (.int (Qcz m)):=by
 have e:=QhC m;show some (PV.int ((gE (m:Int))))=_;rw[e]
def rngL_0 j:rngL 0 j=(ao j.toNat).map λ(k:Nat)=>PV.int k:=by
 grind[rngL]
def rg1:PV->Option (List PV)
 |.int j=>if rOk j=true then some (rngL 0 j) else none
 |_=>none
def rg1_i(h1 : -100000<=j)(h2:j<=100000):rg1 (.int j)=some ((ao j.toNat).map λ(k:Nat)=>PV.int k):=by
 have e:rg1 (.int j)=if rOk j=true then some (rngL 0 j) else none:=rfl;rw[e,au (Qkd (by omega) (by omega)),rngL_0]
def ev_iRg1 m f:iRg1 m f=(m f).bind rg1:=by
 delta iRg1;cases m f with
 |none=>rfl
 |some p=>cases p<;>rfl
def itL:PV->Option (List PV)
 |.lst xs=>some xs
 |_=>none
def itL_l xs:itL (.lst xs)=some xs:=rfl
def ev_iLst m f:iLst m f=(m f).bind itL:=by
 delta iLst;cases m f with
 |none=>rfl
 |some p=>cases p<;>rfl
def itT:PV->Option (List PV)
 |.tup xs=>some xs
 |_=>none
def itT_t xs:itT (.tup xs)=some xs:=rfl
def ev_iTpl m f:iTpl m f=(m f).bind itT:=by
 delta iTpl;cases m f with
 |none=>rfl
 |some p=>cases p<;>rfl
def itS:PV->Option (List PV)
 |.lst xs=>some xs
 |.tup xs=>some xs
 |_=>none
def itS_l xs:itS (.lst xs)=some xs:=rfl
def itS_t xs:itS (.tup xs)=some xs:=rfl
def ev_iSeq m f:iSeq m f=(m f).bind itS:=by
 delta iSeq;cases m f with
 |none=>rfl
 |some p=>cases p<;>rfl
def pEnum_l xs:Qdi [.lst xs]=some (xs.zipIdx.map λx=>.tup [pN x.2,x.1]):=rfl
def pEnum_t xs:QbN [.tup xs]=some (xs.zipIdx.map λx=>.tup [pN x.2,x.1]):=rfl
def pRev_l xs:pRev [.lst xs]=some xs.reverse:=rfl
def pRevT_l xs:Qnn [.lst xs]=some (.tup xs.reverse):=rfl
def cmpK(g:PV->PEnv->Option PEnv)(t:PEnv->Option Bool)(e:MEx)(f:PEnv)(xs:List PV):Option (List PV):=if xs.length<=LIM then YO g t e f xs else none
def cmpK_ok(h:xs.length<=100000):cmpK g t e f xs=YO g t e f xs:=au (Zh h)
def ev_mComp B nt f g t e l:Qr B nt f g t e l=(B l).bind (cmpK g t e (blkG nt f l)):=rfl
def seqK(s2:MSt):Out->Option Out
 |.nx f=>s2 f
 |o=>some o
def seqK_nx s2 f:seqK s2 (.nx f)=s2 f:=rfl
def seqK_rt s2 p:seqK s2 (.rt p)=some (.rt p):=rfl
def seqK_ro s2 p:seqK s2 (.ro p)=some (.ro p):=rfl
def seqK_ct s2 f:seqK s2 (.ct f)=some (.ct f):=rfl
def seqK_bk s2 f:seqK s2 (.bk f)=some (.bk f):=rfl
def ev_sSeq s1 s2 f:sSeq s1 s2 f=(s1 f).bind (seqK s2):=by
 delta sSeq;cases s1 f with
 |none=>rfl
 |some o=>cases o<;>rfl
def ev_startG1 N ps:QQ N ps=ps.map .fz++bS (N-ps.length) .un:=rfl
def outV_rt p:outV (.rt p)=some p:=rfl
def outV_ro xs:outV (.ro xs)=some (.lst xs):=rfl
def outV_nx f:outV (.nx f)=some .non:=rfl
def ev_bin2{α:Type}(f:PV->PV->Option α) B D l:bin2 f B D l=(B l).bind λx=>(D l).bind (f x):=rfl
def ev_mVar i f:mVar i f=getV f i:=rfl
def ev_mC p f:mC p f=some p:=rfl
def ev_mCall{α:Type}(g:List PV->Option α) f l:Qc g f l=(f l).bind g:=rfl
def ev_mLst m f:mLst m f=(m f).map PV.lst:=rfl
def tupK(xs:List PV):Option PV:=if xs.length<=LIM then some (.tup xs) else none
def tupK_ok(h:xs.length<=100000):tupK xs=some (.tup xs):=au (Zh h)
def ev_mTup m f:mTup m f=(m f).bind tupK:=rfl
def limK(xs:List PV):Option (List PV):=if xs.length<=LIM then some xs else none
def limK_ok(h:xs.length<=100000):limK xs=some xs:=au (Zh h)
def ev_mLim m f:mLim m f=(m f).bind limK:=rfl
def ev_aNil f:aNil f=some []:=rfl
def ev_aCons m l f:Qa m l f=(m f).bind λx=>(l f).map (x :: ·):=rfl
theorem isB_bl b:isB (.bl b)=some b:=rfl
def ev_truB m f:truB m f=(m f).bind isB:=rfl
def ev_mIsi f m l:mIsi f m l=(m l).bind (isiK f):=rfl
def isiK_i f i:isiK f (.int i)=some (.bl (f (.int i))):=rfl
def isiK_b f i:isiK f (.bl i)=some (.bl (f (.bl i))):=rfl
def isiK_s f i:isiK f (.str i)=some (.bl (f (.str i))):=rfl
def isiK_t f i:isiK f (.tup i)=some (.bl (f (.tup i))):=rfl
def isiK_l f i:isiK f (.lst i)=some (.bl (f (.lst i))):=rfl
def isiK_0 f:isiK f .non=some (.bl (f .non)):=rfl
def isiK_n f i:isiK f (pN i)=some (.bl (f (pN i))):=rfl
def getV_0 s (f:PEnv):getV (s::f) 0=s.val:=rfl
def getV_s s (f:PEnv) i:getV (s::f) (i+1)=getV f i:=rfl
def val_fz p:(mQ.fz p).val=some p:=rfl
def val_ow p:(mQ.ow p).val=some (.lst p):=rfl
def keep(k:Bool)(ms:List Nat)(f:PEnv):PEnv:=Qx k ms f
def ev_sRet m f:sRet m f=(m f).map .rt:=rfl
def ev_sRetO m f:Zk m f=(m f).map .ro:=rfl
def retS:Option mQ->Option Out
 |some (.ow xs)=>some (.ro xs)
 |some (.fz p)=>some (.rt p)
 |_=>none
def retS_ow xs:retS (some (.ow xs))=some (.ro xs):=rfl
def retS_fz p:retS (some (.fz p))=some (.rt p):=rfl
def ev_sRetV i f:Yr i f=retS f[i]?:=by
 delta Yr;cases f[i]? with
 |none=>rfl
 |some s=>cases s<;>rfl
def ifK(s1 s2:MSt)(f:PEnv)(k:Bool):Option Out:=if k=true then s1 f else s2 f
def ifK_t s1 s2 f:ifK s1 s2 f true=s1 f:=rfl
def ifK_f s1 s2 f:ifK s1 s2 f false=s2 f:=rfl
def ev_sIf t s1 s2 f:sIf t s1 s2 f=(t f).bind (ifK s1 s2 f):=rfl
def ev_sNx f:sNx f=some (.nx f):=rfl
def ev_sBk f:sBk f=some (.bk f):=rfl
def ev_sCt f:sCt f=some (.ct f):=rfl
def ev_sSet ms i m f:sSet ms i m f=(m f).map λr=>.nx ((Qx (flat r) ms f).set i (.fz r)):=rfl
def ev_sSetO ms i m f:Qm ms i m f=(m f).map λxs=>.nx ((Qx (xs.all flat) ms f).set i (.ow xs)):=rfl
def augK(i:Nat)(f:PEnv)(r:PV):Option Out:=if flat r=true then some (.nx (f.set i (.fz r))) else none
def augK_i i f r:augK i f (.int r)=some (.nx (f.set i (.fz (.int r)))):=rfl
def ev_sAug i f m l:sAug i f m l=(getV l i).bind λx=>(m l).bind λy=>(f x y).bind (augK i l):=rfl
def ev_gSet i p f:gSet i p f=some (f.set i (.fz p)):=rfl
def gSet2_t i j x y f:Xg i j (.tup [x,y]) f=some ((f.set i (.fz x)).set j (.fz y)):=rfl
def gSet3_t i j k x y z f:gSet3 i j k (.tup [x,y,z]) f=some (((f.set i (.fz x)).set j (.fz y)).set k (.fz z)):=rfl
def appK(ms:List Nat)(i:Nat)(f:PEnv)(r:PV):Option mQ->Option Out
 |some (.ow xs)=>if xs.length<LIM/\(flat r || !ms.contains i)=true then some (.nx ((Qx (flat r) ms f).set i (.ow (xs++[r])))) else none
 |_=>none
def Zt(h:xs.length<=100000)(h2:(flat r || !ms.contains i)=true):appK ms i f r (some (.ow xs))=some (.nx ((Qx (flat r) ms f).set i (.ow (xs++[r])))):=au ⟨Qkn h,h2⟩
def ev_sApp ms i m f:sApp ms i m f=(m f).bind λr=>appK ms i f r f[i]?:=by
 delta sApp;cases f[i]? with
 |none=>cases m f<;>rfl
 |some s =>
  cases s with
  |ow xs=>rfl
  |_=>cases m f<;>rfl
def ev_sFor ms l g b f:sFor ms l g b f=(l f).bind λxs=>forL g b xs (frz ms f):=rfl
def ev_sForR l g b f:Qcv l g b f=(l f).bind λxs=>forL g b xs f:=rfl
def capO:Option PV->mQ
 |some p=>.fz p
 |none=>.un
def capO_s p:capO (some p) = .fz p:=rfl
def ev_capS f j:capS f j=capO (getV f j):=by
 delta capS;cases getV f j<;>rfl
def ev_blkG nt f l:blkG nt f l=bS nt .un++f.map (capS l):=rfl
def ev_tYesM f:QH f=some true:=rfl
def ev_mTru m f:mTru m f=(m f).bind tru:=rfl
def tru_i i:tru (.int i)=some (i != 0):=rfl
def tru_b i:tru (.bl i)=some i:=rfl
def tru_l i:tru (.lst i)=some (!i.isEmpty):=rfl
def tru_t i:tru (.tup i)=some (!i.isEmpty):=rfl
def andK(f:PEnv->Option Bool)(l:PEnv)(x:Bool):Option Bool:=if x=true then f l else some false
def andK_t f l:andK f l true=f l:=rfl
def andK_f f l:andK f l false=some false:=rfl
def ev_bAnd t1 l f:bAnd t1 l f=(t1 f).bind (andK l f):=rfl
def orK(f:PEnv->Option Bool)(l:PEnv)(x:Bool):Option Bool:=if x=true then some true else f l
def orK_t f l:orK f l true=some true:=rfl
def orK_f f l:orK f l false=f l:=rfl
def ev_bOr t1 l f:bOr t1 l f=(t1 f).bind (orK l f):=rfl
def ev_bNot t1 f:bNot t1 f=(t1 f).map not:=rfl
def vAndK(f:MEx)(l:PEnv)(k:Bool):Option PV:=if k=true then f l else some (.bl false)
def vAndK_t f l:vAndK f l true=f l:=rfl
def vAndK_f f l:vAndK f l false=some (.bl false):=rfl
def ev_vAnd l B f:vAnd l B f=(l f).bind λx=>(isB x).bind (vAndK B f):=rfl
def vOrK(f:MEx)(l:PEnv)(k:Bool):Option PV:=if k=true then some (.bl true) else f l
def vOrK_t f l:vOrK f l true=some (.bl true):=rfl
def vOrK_f f l:vOrK f l false=f l:=rfl
def ev_vOr l B f:vOr l B f=(l f).bind λx=>(isB x).bind (vOrK B f):=rfl
def ev_vNot f l:vNot f l=(f l).bind λx=>(isB x).map λk=>.bl (!k):=rfl
def ifEK(l B:MEx)(f:PEnv)(k:Bool):Option PV:=if k=true then l f else B f
def ifEK_t f B l:ifEK f B l true=f l:=rfl
def ifEK_f B f l:ifEK B f l false=f l:=rfl
def ev_mIfE t l B f:mIfE t l B f=(t f).bind (ifEK l B f):=rfl
def chK(g:PV->PV->Option PV)(f:MEx)(l:PEnv)(y:PV)(k:Bool):Option PV:=if k=true then (f l).bind λw=>g y w else some (.bl false)
def chK_t g f l y:chK g f l y true=(f l).bind (g y):=rfl
def chK_f g f l y:chK g f l y false=some (.bl false):=rfl
def ev_ch3 f g B D I l:ch3 f g B D I l=(B l).bind λx=>(D l).bind λy=>(f x y).bind λz=>(isB z).bind (chK g I l y):=rfl
def ev_un1 f m l:un1 f m l=(m l).bind f:=rfl
def pNeg_i i:pNeg (.int i)=some (.int (-i)):=rfl
def mtK{α:Type}(T:String)(g:PV->List PV->Option α)(q:Option (List PV))(p:PV):Option α:=if tyOk T p=true then q.bind (g p) else none
def mtK_i(g:PV->List PV->Option α) q i:mtK "int" g q (.int i)=q.bind (g (.int i)):=rfl
def mtK_s(g:PV->List PV->Option α) q i:mtK "str" g q (.str i)=q.bind (g (.str i)):=rfl
def mtK_l(g:PV->List PV->Option α) q i:mtK "list" g q (.lst i)=q.bind (g (.lst i)):=rfl
def ev_mMt T (g:PV->List PV->Option α) m l f:mMt T g m l f=(m f).bind (mtK T g (l f)):=rfl
def ev_mMt0 T (g:PV->List PV->Option α) m f:mMt0 T g m f=(m f).bind (mtK T g (some [])):=rfl
def ev_sl3{α:Type}(f:PV->Option Int->Option Int->Option α) m D I B:sl3 f m D I B=(m B).bind λx=>(D B).bind λl=>(I B).bind (f x l):=rfl
def ev_mNo f:mNo f=some none:=rfl
def ev_mSo m f:mSo m f=(m f).bind pInt:=rfl
def pInt_i i:pInt (.int i)=some (some i):=rfl
def pCut_l xs lo f:pCut (.lst xs) lo f=some (cutP xs lo f):=rfl
def pCutS_s(h:z.length<=100000) lo f:ZV (.str z) lo f=some (.str (cg z lo f)):=au (Zh h)
def pItems_l xs:QbM [.lst xs]=some xs:=rfl
def pItems_t xs:QbM [.tup xs]=some xs:=rfl
def pTuple_l xs:YI [.lst xs]=some (.tup xs):=rfl
def pTuple_t xs:YI [.tup xs]=some (.tup xs):=rfl
theorem pMin_i i j:pMin [.int i,.int j]=some (.int (if j<i then j else i)):=rfl
def pAdd_s(h:a.length+b.length<=100000):pAdd (.str a) (.str b)=some (.str (a++b)):=au (Zh h)
def pCat_l(h:a.length+b.length<=100000):pCat (.lst a) (.lst b)=some (a++b):=au (Zh h)
def tru_bit b:(((if b=true then 1 else 0):Int) != 0)=b:=by cases b<;>rfl
def isInt_i i:isInt (.int i)=true:=rfl
def isBl_i i:isBl (.int i)=false:=rfl
def isBl_b i:isBl (.bl i)=true:=rfl
def isStr_s i:Qnu (.str i)=true:=rfl
def isTup_t i:isTup (.tup i)=true:=rfl
def isTup_l i:isTup (.lst i)=false:=rfl
def isLst_l i:Qnv (.lst i)=true:=rfl
def isN_i i:isN (.int i)=false:=rfl
def isN_n:isN .non=true:=rfl
def isN_t i:isN (.tup i)=false:=rfl
def QgH(h1:g x f=some γ1)(h2:b γ1=some (.nx γ2)):forL g b (x::xs) f=forL g b xs γ2:=by
 rw[forL,h1,a9,h2,a9]
def forL_nil g b f:forL g b [] f=some (.nx f):=rfl
def runV_0:runV N 0 m []=(m (QQ N [])).bind outV:=rfl
def runV_1:runV N 1 m [f]=(m (QQ N [f])).bind outV:=rfl
def runV_2:runV N 2 m [f,l]=(m (QQ N [f,l])).bind outV:=rfl
def runV_3:runV N 3 m [f,l,B]=(m (QQ N [f,l,B])).bind outV:=rfl
def runV_4:runV N 4 m [f,l,B,D]=(m (QQ N [f,l,B,D])).bind outV:=rfl
def runV_5:runV N 5 m [f,l,B,D,I]=(m (QQ N [f,l,B,D,I])).bind outV:=rfl
def runV_6:runV N 6 m [f,l,B,D,I,J]=(m (QQ N [f,l,B,D,I,J])).bind outV:=rfl
def runV_7:runV N 7 m [f,l,B,D,I,J,L]=(m (QQ N [f,l,B,D,I,J,L])).bind outV:=rfl
def frzS:mQ->mQ
 |.ow xs=>.fz (.lst xs)
 |s=>s
def frzS_ow xs:frzS (.ow xs) = .fz (.lst xs):=rfl
def frzS_fz p:frzS (.fz p) = .fz p:=rfl
def frzS_un:frzS .un = .un:=rfl
def frz_nil f:frz [] f=f:=rfl
def frz_cons i ms f:frz (i::ms) f=frz ms (frz1 f i):=rfl
def frz1_0 s (f:PEnv):frz1 (s::f) 0=frzS s::f:=by cases s<;>rfl
def frz1_s s (f:PEnv) i:frz1 (s::f) (i+1)=s::frz1 f i:=by
 delta frz1;rw[j8];cases f[i]? with
 |none=>rfl
 |some t=>cases t<;>rfl
def ev_mN n f:mN n f=some (pN n):=rfl
def encN(xs:List Nat):List PV:=xs.map pN
def encN_len xs:(encN xs).length=xs.length:=ai _
def flat_n n:flat (pN n)=true:=rfl
def encN_flat xs:(encN xs).all flat=true:=by
 delta encN;rw[dM,bf];exact λ_ _=>rfl
def encN_nil:encN []=[]:=rfl
def QiI xs ys:encN xs++encN ys=encN (xs++ys):=by delta encN;rw[bF]
def QmM xs y:encN xs++[pN y]=encN (xs++[y]):=by delta encN;rw[bF];rfl
def pAdd_n a b:pAdd (pN a) (pN b)=some (pN (a+b)):=by
 grind[pN,pAdd_i]
def pSub_n(h:b<=a):pSub (pN a) (pN b)=some (pN (a-b)):=by
 delta pN;rw[pSub_i,Int.ofNat_sub h]
def pMul_ln(h:a<2^60):pMul (pN a) (pN b)=some (pN (a*b)):=by
 grind[pN,pMul_l]
def pMul_rn(h:b<2^60):pMul (pN a) (pN b)=some (pN (a*b)):=by
 delta pN;rw[pMul_r (by omega) (by omega)];simp
def pMod_n(h:0<b):pMod (pN a) (pN b)=some (pN (a%b)):=by
 grind[pN,pMod_i]
def pMod_in(h:0<b):pMod (.int c) (pN b)=some (pN (c%b).toNat):=by
 delta pN;rw[pMod_i (by omega),Int.toNat_of_nonneg (Int.emod_nonneg _ (by omega))]
def pDiv_n(h:0<b)(h2:b<2^100):pDiv (pN a) (pN b)=some (pN (a/b)):=by
 grind[pN,pDiv_i]
def pDiv_in(h:0<b)(h2:b<2^100):pDiv (.int c) (pN b)=some (.int (c/b)):=by
 delta pN;rw[pDiv_i (by omega) (by omega)]
def pLt_n a b:pLt (pN a) (pN b)=some (.bl (decide (a<b))):=by
 delta pN;rw[pLt_i];simp
def pLe_n a b:pLe (pN a) (pN b)=some (.bl (decide (a<=b))):=by
 delta pN;rw[pLe_i];simp
def pGt_n a b:pGt (pN a) (pN b)=some (.bl (decide (b<a))):=by
 delta pN;rw[pGt_i];simp
def pGe_n a b:pGe (pN a) (pN b)=some (.bl (decide (b<=a))):=by
 delta pN;rw[pGe_i];simp
def Qce(a b:Nat):(a==(b:Int))=(a==b):=by
 rw[dH,bg,bg];exact Int.ofNat_inj
def pEq_n a b:pEq (pN a) (pN b)=some (.bl (a==b)):=by
 delta pN;rw[pEq_i,Qce]
def pNe_n a b:pNe (pN a) (pN b)=some (.bl (!(a==b))):=by
 delta pN;rw[pNe_i,Qce]
def bAnd_n(a b:Nat):jc a b=((a&&&b)):=by
 rw[bitAnd_pp (by omega) (by omega)];simp
def bOr_n(a b:Nat):gl a b=((a|||b)):=by
 delta gl;rw[bitAnd_nn (by delta dh;omega) (by delta dh;omega)];delta dh;have e:∀a:Nat,(-(-(a:Int)-1)-1).toNat=a:=λa=>by omega
 rw[e,e];omega
def pAnd_n a b:pAnd (pN a) (pN b)=some (pN (a&&&b)):=by delta pN;rw[pAnd_i,bAnd_n]
def pOr_n a b:pOr (pN a) (pN b)=some (pN (a|||b)):=by delta pN;rw[pOr_i,bOr_n]
def pShl_n(h:k<=1000000):pShl (pN 1) (pN k)=some (pN (2^k)):=by
 have e:=pShl_one (k:=k) (by omega) (by omega);delta pN;rw[show((1:Nat):Int)=1 from rfl,e];simp
def pShr_n m k:pShr (pN m) (pN k)=some (pN (m/2^k)):=by
 delta pN;rw[pShr_i (by omega)];simp
def testBit_odd(m k:Nat):((m/2^k)&&&1 != 0)=m.testBit k:=by
 rw[Nat.testBit,Nat.shiftRight_eq_div_pow,Nat.and_comm]
def testBit_mod m k:(m/2^k%2==1)=m.testBit k:=by
 grind
def pMin_n a b:pMin [pN a,pN b]=some (pN (min a b)):=by
 grind[pN,pMin_i]
def pLen_ln xs:pLen [.lst xs]=some (pN xs.length):=rfl
def pLen_tn xs:pLen [.tup xs]=some (pN xs.length):=rfl
def pLen_sn(h:z.length<=100000):pLen [.str z]=some (pN z.length):=au (Zh h)
def rg1_n(h:n<=100000):rg1 (pN n)=some (encN (ao n)):=by
 delta pN;rw[rg1_i (by lia) (by lia),c9];rfl
def pBits_pn m:Qhw (pN m) []=some (pN (Qcz m)):=Qmd m
def mtK_n(g:PV->List PV->Option α) q i:mtK "int" g q (pN i)=q.bind (g (pN i)):=rfl
def isInt_n i:isInt (pN i)=true:=rfl
def isBl_n i:isBl (pN i)=false:=rfl
def isTup_n i:isTup (pN i)=false:=rfl
def isN_pn i:isN (pN i)=false:=rfl
def tru_n i:tru (pN i)=some (i != 0):=by
 have:=Qce i 0;show some (!(i==((0:Nat):Int)))=_;rw[this];rfl
def pNeg_n i:pNeg (pN i)=some (.int (-i)):=rfl
def atI_last1 xs (v:PV):atI (xs++[v]) (-((1:Nat)))=some v:=atI_last xs v
def pInt_n i:pInt (pN i)=some (some (i:Int)):=rfl
def QiR(xs:List α)(i:Nat):atI xs i=xs[i]?:=by
 cases h:xs[i]? with
 |some v=>exact Qlz h
 |none =>
  have:=jQ.mp h;delta atI ixN;rw[au (by omega),aK (by omega)];rfl
def pIx_ln xs i:pIx (.lst xs) (pN i)=xs[i]?:=QiR xs i
def pIx_tn xs i:pIx (.tup xs) (pN i)=xs[i]?:=QiR xs i
def encN_get xs (i:Nat):(encN xs)[i]?=(xs[i]?).map pN:=by grind[encN]
def augK_n i f r:augK i f (pN r)=some (.nx (f.set i (.fz (pN r)))):=rfl
def peq_pn a b:peq (pN a) (pN b)=(a==b):=by
 delta pN;have:peq (.int a) (.int b)=(a==(b:Int)):=rfl;rw[this,Qce]
def okv_n a:okv (pN a)=true:=okv_int _
def Qin xs:(encN xs).all okv=true:=by
 delta encN;rw[dM,bf];exact λ_ _=>okv_n _
def any_pn k xs:((encN xs).any λy=>peq y (pN k))=decide (k∈xs):=by
 delta encN;rw[f9,dH,bY];simp[peq_pn]
def pIn_nl k xs:pIn (pN k) (.lst (encN xs))=some (.bl (decide (k∈xs))):=by
 have e:pIn (pN k) (.lst (encN xs))=if okv (pN k)=true/\(encN xs).all okv=true then some (.bl ((encN xs).any λy=>peq y (pN k))) else none:=rfl;rw[e,au ⟨okv_n k,Qin xs⟩,any_pn]
def pIn_nt k xs:pIn (pN k) (.tup (encN xs))=some (.bl (decide (k∈xs))):=by
 have e:pIn (pN k) (.tup (encN xs))=if okv (pN k)=true/\(encN xs).all okv=true then some (.bl ((encN xs).any λy=>peq y (pN k))) else none:=rfl;rw[e,au ⟨okv_n k,Qin xs⟩,any_pn]
def XF(h:pIn x y=some (.bl b)):ZR x y=some (.bl (!b)):=by
 grind[ZR]
def pNotIn_nl k xs:ZR (pN k) (.lst (encN xs))=some (.bl (!decide (k∈xs))):=XF (pIn_nl k xs)
def pNotIn_nt k xs:ZR (pN k) (.tup (encN xs))=some (.bl (!decide (k∈xs))):=XF (pIn_nt k xs)
def compN{α:Type} b y xs (h:∀x∈xs,∃γ1,g (pN x) f=some γ1/\t γ1=some (b x)/\(b x=true->e γ1=some (y x))) :
  YO g t e f (encN xs)=some ((xs.filter b).map y):=QaP pN b y xs h
def Qdl y xs (h:∀x∈xs,∃γ1,g (pN x) f=some γ1/\e γ1=some (y x)) :
  YO g QH e f (encN xs)=some (xs.map y):=Ql pN y xs h
def compNF b xs (h:∀x∈xs,∃γ1,g (pN x) f=some γ1/\t γ1=some (b x)/\e γ1=some (pN x)) :
  YO g t e f (encN xs)=some (encN (xs.filter b)):=by
 rw[compN (α:=Nat) b pN xs λx j=>by
  obtain⟨γ1,h1,h2,l⟩:=h x j;exact⟨γ1,h1,h2,λ_=>l⟩]
 rfl
def cutP_map{α B:Type}(f:α->B) xs lo l:cutP (xs.map f) lo l=(cutP xs lo l).map f:=by
 unfold cutP;rw[ai,<-iM,<-List.map_take]
def QgM{α:Type}(xs:List α)(a b:Nat):cutP xs (some a) (some b)=(xs.take b).drop a:=by
 delta cutP;rw[HT.sIx_nat,HT.sIx_nat];apply eH;intro i;rw[lF,iR,iR,lF];by_cases h:min a xs.length+i<xs.length
 .have f:min a xs.length=a:=by lia
  rw[f];by_cases h2:i<min b xs.length-a
  .rw[au h2,au (by lia)]
  .rw[aK h2,aK (by lia)]
 .have j:xs[min a xs.length+i]?=none:=bp (by lia);rw[j];by_cases l:a+i<b
  .rw[au l,bp (by lia)];split<;>rfl
  .split<;>rfl
def cutP_0n{α:Type}(xs:List α)(b:Nat):cutP xs none (some b)=xs.take b:=by
 delta cutP;rw[HT.sIx_nat,HT.sIx_none];simp
def Xz{α:Type}(xs:List α)(a:Nat):cutP xs (some a) none=xs.drop a:=by
 delta cutP;rw[HT.sIx_nat,HT.sIx_none];rw[c7 (by rw[dr];lia)];by_cases h:a<=xs.length
 .rw[mD h]
 .rw[Nat.min_eq_right (by lia),gZ,List.drop_of_length_le (by lia)]
def Qmt s r:QbG (.str s::r)=none:=rfl
def pSort_s(h:ss.length<64):QeF [.lst (ss.map .str)]=some ((QA ss).map .str):=by
 cases ss with
 |nil=>simp[QeF,QbG,Qdc,QA]
 |cons s r =>
  show(match QbG (.str s::r.map .str) with
   |some ns=>if ns.length<64 then some ((Qdc ns).map PV.int) else none
   | none=>match strs? ((s::r).map .str) with
    |some ss=>if ss.length<64 then some ((QA ss).map PV.str) else none
    |none=>none)=_
  rw[Qmt,strs?_map];exact au h
def pSort_i(h:ss.length<64):QeF [.lst (ss.map .int)]=some ((Qdc ss).map .int):=by
 show(match QbG (ss.map .int) with
   |some ns=>if ns.length<64 then some ((Qdc ns).map PV.int) else none
   | none=>match strs? (ss.map .int) with
    |some ss=>if ss.length<64 then some ((QA ss).map PV.str) else none
    |none=>none)=_
 rw[Qmu];exact au h
def Qfl ss:(QA ss).length=ss.length:=(Qk ss).length_eq
def Qim{ss:List Str}(h:∀s∈ss,ar s=true):(ss.map PV.str).all okv=true:=by
 rw[dM,bf];exact λs f=>Qar (h s f)
def peq_s a b:peq (.str a) (.str b)=(a==b):=rfl
def pIn_sl{ss:List Str}(h:ar s=true)(f:∀s∈ss,ar s=true):pIn (.str s) (.lst (ss.map .str))=some (.bl (ss.any (·==s))):=by
 have e:pIn (.str s) (.lst (ss.map .str))=if okv (.str s)=true/\(ss.map PV.str).all okv=true then some (.bl ((ss.map PV.str).any λy=>peq y (.str s))) else none:=rfl;rw[e,au ⟨Qar h,Qim f⟩,f9];congr 3
def Qdh{ss:List Str}(h:ar s=true)(f:∀s∈ss,ar s=true):pIn (.str s) (.tup (ss.map .str))=some (.bl (ss.any (·==s))):=by
 have e:pIn (.str s) (.tup (ss.map .str))=if okv (.str s)=true/\(ss.map PV.str).all okv=true then some (.bl ((ss.map PV.str).any λy=>peq y (.str s))) else none:=rfl;rw[e,au ⟨Qar h,Qim f⟩,f9];congr 3
def XE{ss:List Str}(h:ar s=true)(f:∀s∈ss,ar s=true):ZR (.str s) (.lst (ss.map .str))=some (.bl (!ss.any (·==s))):=XF (pIn_sl h f)
def Qfu{ss:List Str}(h:ar s=true)(f:∀s∈ss,ar s=true):ZR (.str s) (.tup (ss.map .str))=some (.bl (!ss.any (·==s))):=XF (Qdh h f)
theorem Xt(f:ar a=true)(l:ar b=true):pEq (.str a) (.str b)=some (.bl (a==b)):=by rw[QeT (Qar f) (Qar l),peq_s]
def Qno(f:ar a=true)(l:ar b=true):pNe (.str a) (.str b)=some (.bl (!(a==b))):=by rw[pNe_ok (Qar f) (Qar l),peq_s]
def allflat_nats(ns:List Nat):(ns.map λ(k:Nat)=>PV.int k).all flat=true:=by simp[flat]
def Zb(a b:Str):(a++b).length=a.length+b.length:=by
 show(a.cps++b.cps).size=_;rw[jd];rfl
def Xu(h1:ar a=true)(h2:ar b=true):ar (a++b)=true:=by
 delta ar at *;show(a.cps++b.cps).all _=true;rw[Array.all_append,h1,h2];rfl
theorem QfU(a b c:Str):a++b++c=a++(b++c):=by
 show(⟨a.cps++b.cps++c.cps⟩:Str)=⟨a.cps++(b.cps++c.cps)⟩;grind
def QlP f:a5 f [] = "":=by
 rfl
theorem QaQ f x:a5 f [x]=x:=by
 rfl
theorem Zs f x y r:a5 f (x::y::r)=x++f++a5 f (y::r):=by
 delta a5;rw[mw,mw];rfl
def ok_empty:ar ""=true:=by decide+kernel
theorem QaG f (l:ar f=true):∀ss ,(∀s∈ss,ar s=true)->ar (a5 f ss)=true
 |[],_=>by exact ok_empty
 |[x],h=>by exact h x (by simp)
 |x::y::r,h=>by
  rw[Zs];exact Xu (Xu (h x (by simp)) l) (QaG f l (y::r) λs l=>h s (ax _ l))
def Qy f ss:(a5 f ss).length=(ss.map cw).sum+(ss.length-1)*f.length:=by
 unfold a5;exact PySem.size_glued f ss
def Xw(ss:List Str) b (h:∀s∈ss,s.length<=b):(ss.map cw).sum<=ss.length*b:=by
 induction ss with
 |nil=>simp
 |cons x l f =>
  have h1:=f λk j=>h k (ax _ j);have h2:=h x (by simp);simp only[ba,jZ,aG,Nat.succ_mul];lia
def Qjc l u n:(bD l u 1 n).length<=n:=by
 delta bD PySem.sliceRange;cases l<;>cases u<;>simp<;>(split<;>(try split)<;>(try split)<;>(try simp)<;>lia)
def QaR z lo f:(cg z lo f).length<=z.length:=by
 delta cg;split
 .exact aB _
 .have h1:=Qjc lo f z.length;have h2:=gJ (λx=>z.cps[x]?) (bD lo f 1 z.length);show((List.filterMap _ _).toArray).size<=_;rw[aQ];lia
def EVc:=(ae (ae (ae (ae (ae (ae (ae @ev_mN (ae @encN_len @encN_flat)) (ae (ae @flat_n @pAdd_n) (ae @pSub_n @pMul_ln))) (ae (ae @pMul_rn (ae @pMod_n @pMod_in)) (ae (ae @pDiv_n @pDiv_in) (ae @pLt_n @pLe_n)))) (ae (ae (ae @pGt_n (ae @pGe_n @pEq_n)) (ae (ae @pNe_n @pAnd_n) (ae @pOr_n @pShl_n))) (ae (ae (ae @pShr_n @testBit_odd) (ae @testBit_mod @pMin_n)) (ae (ae @rg1_n @mtK_n) (ae @isInt_n @isBl_n))))) (ae (ae (ae (ae @isTup_n (ae @isN_pn @tru_n)) (ae (ae @pNeg_n @atI_last1) (ae @pInt_n @pIx_ln))) (ae (ae @pIx_tn (ae @encN_get @augK_n)) (ae (ae @pIn_nl @pIn_nt) (ae @pNotIn_nl @pNotIn_nt)))) (ae (ae (ae @runV_0 (ae @runV_1 @runV_2)) (ae (ae @runV_3 @runV_4) (ae @runV_5 @runV_6))) (ae (ae (ae @runV_7 @ev_startG1) (ae @ev_sSeq @seqK_nx)) (ae (ae @seqK_rt @seqK_ro) (ae @seqK_ct @seqK_bk)))))) (ae (ae (ae (ae (ae @ev_sSet (ae @ev_sSetO @ev_sRet)) (ae (ae @ev_sRetO @ev_sRetV) (ae @retS_ow @retS_fz))) (ae (ae @ev_sIf (ae @ifK_t @ifK_f)) (ae (ae @ev_sNx @ev_sBk) (ae @ev_sCt @ev_bin2)))) (ae (ae (ae @ev_mVar (ae @ev_mC @ev_mCall)) (ae (ae @ev_mLst @ev_mTup) (ae @tupK_ok @ev_mLim))) (ae (ae (ae @limK_ok @ev_aCons) (ae @ev_aNil @ev_truB)) (ae (ae @isB_bl @ev_mIsi) (ae @isiK_i @isiK_b))))) (ae (ae (ae (ae @isiK_s (ae @isiK_t @isiK_l)) (ae (ae @isiK_0 @isiK_n) (ae @getV_0 @getV_s))) (ae (ae @val_fz (ae @val_ow @pAdd_i)) (ae (ae @pSub_i @pLt_i) (ae @pLe_i @pGt_i)))) (ae (ae (ae @pGe_i (ae @pEq_i @pNe_i)) (ae (ae @pLen_ln @pLen_tn) (ae @pIx_lst @pIx_tup))) (ae (ae (ae @keepE_true @keepE_false) (ae @flat_int @flat_bl)) (ae (ae @flat_str @flat_non) (ae @flat_tup @flat_lst))))))) (ae (ae (ae (ae (ae (ae @outV_rt (ae @outV_ro @outV_nx)) (ae (ae @ev_bAnd @andK_t) (ae @andK_f @ev_bOr))) (ae (ae @orK_t (ae @orK_f @ev_bNot)) (ae (ae @ev_vAnd @vAndK_t) (ae @vAndK_f @ev_vOr)))) (ae (ae (ae @vOrK_t (ae @vOrK_f @ev_vNot)) (ae (ae @ev_mIfE @ifEK_t) (ae @ifEK_f @ev_ch3))) (ae (ae (ae @chK_t @chK_f) (ae @ev_un1 @pNeg_i)) (ae (ae @ev_mMt0 @ev_mMt) (ae @mtK_i @mtK_s))))) (ae (ae (ae (ae @mtK_l (ae @ev_sForR @ev_sFor)) (ae (ae @ev_mComp @cmpK_ok) (ae @ev_iRg1 @rg1_i))) (ae (ae @ev_iLst (ae @itL_l @ev_iTpl)) (ae (ae @itT_t @ev_iSeq) (ae @itS_l @itS_t)))) (ae (ae (ae @pEnum_l (ae @pEnum_t @pRev_l)) (ae (ae @pRevT_l @ev_blkG) (ae @ev_capS @capO_s))) (ae (ae (ae @ev_gSet @gSet2_t) (ae @gSet3_t @ev_mTru)) (ae (ae @tru_i @tru_b) (ae @tru_l @tru_t)))))) (ae (ae (ae (ae (ae @ev_tYesM (ae @pMod_i @pDiv_i)) (ae (ae @pMul_l @pMul_r) (ae @pBits_pn @tru_bit))) (ae (ae @ev_sl3 (ae @ev_mNo @ev_mSo)) (ae (ae @pInt_i @pCut_l) (ae @pCutS_s @pItems_l)))) (ae (ae (ae @pItems_t (ae @pTuple_l @pTuple_t)) (ae (ae @pMin_i @pLen_sn) (ae @pAdd_s @pCat_l))) (ae (ae (ae @isInt_i @isBl_i) (ae @isBl_b @isStr_s)) (ae (ae @isTup_t @isTup_l) (ae @isLst_l @isN_i))))) (ae (ae (ae (ae @isN_n (ae @isN_t @pIs_non)) (ae (ae @pIsNot_non @forL_nil) (ae @frz_nil @frz_cons))) (ae (ae (ae @frz1_0 @frz1_s) (ae @frzS_ow @frzS_fz)) (ae (ae @frzS_un @ev_sAug) (ae @augK_i @ev_sApp)))) (ae (ae (ae @allflat_ints (ae @allflat_strs @allflat_nats)) (ae (ae @cutP_map @Nat.not_lt_zero) (ae @decide_true @decide_false))) (ae (ae (ae @iN @Bool.not_false) (ae @Bool.true_or @Bool.false_or)) (ae (ae @hU @j4) (ae @gL @jM))))))))
end L2.PM
set_option maxHeartbeats 4000000
namespace DH
open PySem PySem.Spec PyProof.Rows L2 L2.PM
def Xr:=(sSeq (sSet [2] 2 (bin2 pMod (bin2 pMul (mVar 2) (mN 48271)) (mN 2147483647)))
 (sApp [2] 3 (bin2 pDiv (mVar 2) (mN 13))))
def Za:=runV 5 2 (sSeq (sSet [0] 2 (bin2 pMod (bin2 pMul (bin2 pAdd (bin2 pMod (mVar 0) (mN 2147483629)) (mN 1)) (mN 1103515245)) (mN 2147483647)))
 (sSeq (Qm [] 3 (mLim aNil))
 (sSeq (Qcv (iRg1 (mVar 1)) (gSet 4) Xr)
 (Yr 3))))
def Xq:=(sSeq (sSet [0] 0 (bin2 pMod (bin2 pAdd (bin2 pMul (mVar 0) (mN 69621)) (mN 1)) (mN 2147483647)))
 (sSet [3,2,0] 3 (bin2 pAdd (mVar 3) (bin2 pIx (mVar 2) (bin2 pMod (bin2 pDiv (mVar 0) (mN 17)) (mN 26))))))
def QI:=runV 5 2 (sSeq (sSet [] 2 (mC (.str "abcdefghijklmnopqrstuvwxyz")))
 (sSeq (sSet [] 3 (mC (.str "")))
 (sSeq (Qcv (iRg1 (mVar 1)) (gSet 4) Xq)
 (Yr 3))))
def YE:=(sSeq (sSet [4,8,4,8] 9 (Qc QI (Qa (bin2 pIx (mVar 4) (bin2 pAdd (mN 3) (mVar 8))) (Qa (bin2 pAdd (mN 1) (bin2 pMod (bin2 pDiv (bin2 pIx (mVar 4) (bin2 pAdd (mN 4) (mVar 8))) (mN 5)) (mN 4))) aNil))))
 (sSeq (sIf (truB (bin2 pLt (bin2 pMod (bin2 pIx (mVar 4) (mN 20)) (mN 4)) (mN 2))) (sSeq (sSet [2,4,8,4] 10 (bin2 pIx (mVar 2) (bin2 pMod (bin2 pAdd (bin2 pIx (mVar 4) (mN 21)) (bin2 pMul (mVar 8) (bin2 pIx (mLst (mLim (Qa (mN 1) (Qa (mN 3) (Qa (mN 5) (Qa (mN 7) (Qa (mN 9) (Qa (mN 11) aNil)))))))) (bin2 pMod (bin2 pIx (mVar 4) (mN 22)) (mN 6))))) (mN 26))))
 (sSet [5,6,10,5,6] 9 (bin2 pAdd (bin2 pAdd (sl3 ZV (mVar 5) mNo (mSo (mVar 6))) (mVar 10)) (sl3 ZV (mVar 5) (mSo (bin2 pAdd (mVar 6) (mN 1))) mNo)))) sNx)
 (sSeq (sIf (truB (bin2 pEq (bin2 pMod (bin2 pIx (mVar 4) (mN 20)) (mN 4)) (mN 2))) (sSet [3,4,8] 9 (bin2 pIx (mVar 3) (bin2 pMod (bin2 pAdd (bin2 pIx (mVar 4) (mN 23)) (bin2 pMul (mN 5) (mVar 8))) (mN 12)))) sNx)
 (sSeq (sIf (truB (bin2 pIn (mVar 9) (mTup (Qa (mC (.str "guess")) (Qa (mC (.str "unless")) (Qa (mC (.str "if")) aNil)))))) (sSet [9] 9 (bin2 pAdd (mVar 9) (mC (.str "a")))) sNx)
 (sIf (truB (bin2 ZR (mVar 9) (mVar 7))) (sApp [9] 7 (mVar 9)) sNx)))))
def ZZ:=runV 11 2 (sSeq (sSet [] 2 (mC (.str "abcdefghijklmnopqrstuvwxyz")))
 (sSeq (Qm [] 3 (mLim (Qa (mC (.str "by")) (Qa (mC (.str "lot")) (Qa (mC (.str "why")) (Qa (mC (.str "tell")) (Qa (mC (.str "drop")) (Qa (mC (.str "book")) (Qa (mC (.str "ranks")) (Qa (mC (.str "camps")) (Qa (mC (.str "flaw")) (Qa (mC (.str "stands")) (Qa (mC (.str "yes")) (Qa (mC (.str "no")) aNil))))))))))))))
 (sSeq (sSet [0] 4 (Qc Za (Qa (mVar 0) (Qa (mN 26) aNil))))
 (sSeq (sSet [4,4] 5 (Qc QI (Qa (bin2 pIx (mVar 4) (mN 0)) (Qa (bin2 pAdd (mN 1) (bin2 pMod (bin2 pIx (mVar 4) (mN 1)) (mN 12))) aNil))))
 (sSeq (sSet [4,5] 6 (bin2 pMod (bin2 pIx (mVar 4) (mN 2)) (Qc pLen (Qa (mVar 5) aNil))))
 (sSeq (Qm [] 7 (mLim aNil))
 (sSeq (Qcv (iRg1 (mVar 1)) (gSet 8) YE)
 (Yr 7))))))))
def Zn:=runV 2 2 (sSeq (sIf (truB (bin2 pLt (mVar 1) (Qc pLen (Qa (mVar 0) aNil)))) (sRet (bin2 pIx (mVar 0) (mVar 1))) sNx)
 (sRet (mN 0)))
def Yd:=(sApp [2,5,2,1,5,2] 4 (mTup (Qa (mC (.str "guess")) (Qa (bin2 pIx (mVar 2) (mVar 5)) (Qa (bin2 pIx (mVar 2) (bin2 pMod (bin2 pIx (mVar 1) (bin2 pAdd (mN 2) (mVar 5))) (Qc pLen (Qa (mVar 2) aNil)))) aNil)))))
def Yc:=(sIf (truB (bin2 pLt (mVar 3) (Qc pLen (Qa (mVar 2) aNil)))) (sSeq (sSet [2,3,1,5,2,3] 6 (bin2 pIx (mVar 2) (bin2 pAdd (mVar 3) (bin2 pMod (bin2 pIx (mVar 1) (bin2 pAdd (mN 5) (mVar 5))) (bin2 pSub (Qc pLen (Qa (mVar 2) aNil)) (mVar 3))))))
 (sSeq (sSet [2,1,5,2] 7 (bin2 pIx (mVar 2) (bin2 pMod (bin2 pIx (mVar 1) (bin2 pAdd (mN 10) (mVar 5))) (Qc pLen (Qa (mVar 2) aNil)))))
 (sSeq (sSet [6,7,7,1,5] 8 (mTup (Qa (mC (.str "rule")) (Qa (mVar 6) (Qa (bin2 pIx (mLst (mLim (Qa (mTup aNil) (Qa (mTup (Qa (mVar 7) aNil)) (Qa (mTup (Qa (mVar 7) aNil)) aNil))))) (bin2 pMod (bin2 pIx (mVar 1) (bin2 pAdd (mN 15) (mVar 5))) (mN 3))) aNil)))))
 (sIf (truB (bin2 ZR (mVar 8) (mVar 4))) (sIns [8] 4 (bin2 pMod (bin2 pIx (mVar 1) (bin2 pAdd (mN 20) (mVar 5))) (bin2 pAdd (Qc pLen (Qa (mVar 4) aNil)) (mN 1))) (mVar 8)) sNx)))) sNx)
def Yu:=runV 9 1 (sSeq (sSet [0] 1 (Qc Za (Qa (Qc Zn (Qa (mVar 0) (Qa (mN 1) aNil))) (Qa (mN 30) aNil))))
 (sSeq (sSet [0,1] 2 (Qc ZZ (Qa (Qc Zn (Qa (mVar 0) (Qa (mN 0) aNil))) (Qa (bin2 pAdd (mN 1) (bin2 pMod (bin2 pIx (mVar 1) (mN 0)) (mN 9))) aNil))))
 (sSeq (sSet [1,2] 3 (Qc pMin (Qa (bin2 pMod (bin2 pIx (mVar 1) (mN 1)) (mN 3)) (Qa (Qc pLen (Qa (mVar 2) aNil)) aNil))))
 (sSeq (Qm [] 4 (mLim aNil))
 (sSeq (Qcv (iRg1 (mVar 3)) (gSet 5) Yd)
 (sSeq (Qcv (iRg1 (bin2 pMod (bin2 pIx (mVar 1) (mN 4)) (mN 5))) (gSet 5) Yc)
 (Yr 4)))))))
def QW:=runV 1 1 (sSeq (sIf (bOr (truB (bin2 pIn (mVar 0) (mC (.tup ((["guess","unless","if"]:List Str).map .str))))) (bNot (truB (ch3 pLe pLe (mN 1) (Qc pLen (Qa (mVar 0) aNil)) (mN 12))))) (sRet (mC (.bl false))) sNx)
 (sRet (Qc Qhx (Qa (mLst (Qr (iStr (mVar 0)) 1 [] (gSet 0) QH (ch3 pLeS pLeS (mC (.str "a")) (mVar 0) (mC (.str "z"))))) aNil))))
def QC:=runV 1 1 (sSeq (sIf (bOr (truB (bin2 pNe (Qc pLen (Qa (mVar 0) aNil)) (mN 4))) (bOr (truB (bin2 pNe (bin2 pIx (mVar 0) (mN 0)) (mC (.str "guess")))) (truB (bin2 pNe (bin2 pIx (mVar 0) (mN 2)) (mC (.str "unless")))))) (sRet (mC (.bl false))) sNx)
 (sRet (vAnd (Qc QW (Qa (bin2 pIx (mVar 0) (mN 1)) aNil)) (Qc QW (Qa (bin2 pIx (mVar 0) (mN 3)) aNil)))))
def QN:=runV 1 1 (sSeq (sIf (truB (bin2 pEq (Qc pLen (Qa (mVar 0) aNil)) (mN 1))) (sRet (Qc QW (Qa (bin2 pIx (mVar 0) (mN 0)) aNil))) sNx)
 (sSeq (sIf (bOr (truB (bin2 pEq (Qc pLen (Qa (mVar 0) aNil)) (mN 2))) (truB (bin2 pNe (bin2 pIx (mVar 0) (mN 1)) (mC (.str "if"))))) (sRet (mC (.bl false))) sNx)
 (sRet (Qc Qhx (Qa (mLst (Qr (iLst (mLst (bin2 pCat (mLst (sl3 pCut (mVar 0) mNo (mSo (mN 1)))) (mLst (sl3 pCut (mVar 0) (mSo (mN 2)) mNo))))) 1 [] (gSet 0) QH (Qc QW (Qa (mVar 0) aNil)))) aNil)))))
def d_read_row:=(sSeq (Qm [0] 2 (mMt "str" YJ (mVar 0) (Qa (mC (.str " ")) aNil)))
 (sSeq (sIf (mTru (Qc QC (Qa (mVar 2) aNil))) (sRet (mTup (Qa (mC (.str "guess")) (Qa (bin2 pIx (mVar 2) (mN 1)) (Qa (bin2 pIx (mVar 2) (mN 3)) aNil))))) sNx)
 (sSeq (sIf (bNot (mTru (Qc QN (Qa (mVar 2) aNil)))) sNo sNx)
 (sSeq (sSet [2] 3 (Qc YI (Qa (mLst (sl3 pCut (mVar 2) (mSo (mN 2)) mNo)) aNil)))
 (sSeq (sIf (truB (bin2 pGt (Qc pLen (Qa (mVar 3) aNil)) (mN 6))) sNo sNx)
 (sSeq (sIf (truB (bin2 pLt (Qc Qca (Qa (mVar 3) aNil)) (Qc pLen (Qa (mVar 3) aNil)))) sNo sNx)
 (sRet (mTup (Qa (mC (.str "rule")) (Qa (bin2 pIx (mVar 2) (mN 0)) (Qa (mVar 3) aNil)))))))))))
def QR:List PV->Option PV:=runV 4 2 d_read_row
def QL:=runV 2 2 (Zk (Qr (iLst (mVar 0)) 1 [1] (gSet 0) (truB (bin2 pEq (bin2 pIx (mVar 0) (mN 0)) (mVar 1))) (mVar 0)))
def QaE:=(sSeq (sApp [2] 1 (bin2 pIx (mVar 2) (mN 1)))
 (sExM [2,2,2] 1 (mIfE (truB (bin2 pEq (bin2 pIx (mVar 2) (mN 0)) (mC (.str "guess")))) (mLst (mLim (Qa (bin2 pIx (mVar 2) (mN 2)) aNil))) (bin2 pIx (mVar 2) (mN 2)))))
def YX:=runV 3 1 (sSeq (Qm [] 1 (mLim aNil))
 (sSeq (sFor [0] (iLst (mVar 0)) (gSet 2) QaE)
 (Yr 1)))
def Zy:=runV 1 1 (sSeq (sIf (bOr (truB (bin2 pGt (Qc pLen (Qa (Qc QL (Qa (mVar 0) (Qa (mC (.str "guess")) aNil))) aNil)) (mN 8))) (truB (bin2 pGt (Qc pLen (Qa (Qc QL (Qa (mVar 0) (Qa (mC (.str "rule")) aNil))) aNil)) (mN 40)))) (sRet (mC (.bl true))) sNx)
 (sRet (bin2 pGt (Qc QaX (Qa (Qc YX (Qa (mVar 0) aNil)) aNil)) (mN 30))))
def ZP:=runV 1 1 (sSeq (sIf (truB (bin2 pEq (bin2 pIx (mVar 0) (mN 0)) (mC (.str "guess")))) (sRet (mTup (Qa (mC (.str "guess")) (Qa (bin2 pIx (mVar 0) (mN 1)) aNil)))) sNx)
 (sRet (mTup (Qa (mC (.str "rule")) (Qa (bin2 pIx (mVar 0) (mN 1)) (Qa (Qc YI (Qa (mLst (Qc QgT (Qa (bin2 pIx (mVar 0) (mN 2)) aNil))) aNil)) aNil))))))
def XU:=(sSeq (sSet [3,2] 4 (Qc QR (Qa (mVar 3) (Qa (mVar 2) aNil))))
 (sSeq (sIf (truB (bin2 pIn (Qc ZP (Qa (mVar 4) aNil)) (mLst (Qr (iLst (mVar 1)) 1 [] (gSet 0) QH (Qc ZP (Qa (mVar 0) aNil)))))) sNo sNx)
 (sSeq (sApp [4] 1 (mVar 4))
 (sIf (mTru (Qc Zy (Qa (mVar 1) aNil))) sNo sNx))))
def Xh:=runV 5 1 (sSeq (Qm [] 1 (mLim aNil))
 (sSeq (sFor [0] (Qc Qdi (Qa (mVar 0) aNil)) (Xg 2 3) XU)
 (Yr 1)))
def Yo:=(sIf (bAnd (truB (bin2 pEq (bin2 pIx (mVar 3) (mN 0)) (mC (.str "rule")))) (truB (bin2 pIn (bin2 pIx (mVar 3) (mN 1)) (mVar 1)))) sNo sNx)
def ZE:=runV 4 1 (sSeq (Qm [0] 1 (Qr (iLst (Qc QL (Qa (mVar 0) (Qa (mC (.str "guess")) aNil)))) 1 [] (gSet 0) QH (bin2 pIx (mVar 0) (mN 1))))
 (sFor [0] (Qc Qdi (Qa (mVar 0) aNil)) (Xg 2 3) Yo))
def Qad:=runV 2 1 (sSeq (Qm [0] 1 (Qr (iLst (Qc QL (Qa (mVar 0) (Qa (mC (.str "guess")) aNil)))) 1 [] (gSet 0) QH (bin2 pIx (mVar 0) (mN 1))))
 (sRet (Qc YI (Qa (mLst (bin2 pCat (mLst (Qc QeF (Qa (mVar 1) aNil))) (mLst (QcI (Qa (Qc YX (Qa (mVar 0) aNil)) aNil) (Qa (mVar 1) aNil))))) aNil))))
def ZF:=runV 3 2 (sSeq (Qm [1,0] 2 (Qc QeF (Qa (mLst (Qr (iSeq (bin2 pIx (mVar 1) (mN 2))) 1 [0] (gSet 0) QH (mMtT Yp (mVar 1) (Qa (mVar 0) aNil)))) aNil)))
 (sRet (mTup (Qa (mMtT Yp (mVar 0) (Qa (bin2 pIx (mVar 1) (mN 1)) aNil)) (Qa (Qc YI (Qa (mVar 2) aNil)) aNil)))))
def ZG:=runV 5 2 (sSeq (Qm [1] 2 (Qc QdS (Qa (Qc QL (Qa (mVar 1) (Qa (mC (.str "guess")) aNil))) aNil)))
 (sSeq (sSet [2,0] 3 (Qc YI (Qa (mLst (Qr (iLst (mVar 2)) 1 [0] (gSet 0) QH (mMtT Yp (mVar 1) (Qa (bin2 pIx (mVar 0) (mN 2)) aNil)))) aNil)))
 (sSeq (sSet [1,0] 4 (Qc YI (Qa (mLst (Qr (iLst (Qc QL (Qa (mVar 1) (Qa (mC (.str "rule")) aNil)))) 1 [0] (gSet 0) QH (Qc ZF (Qa (mVar 1) (Qa (mVar 0) aNil))))) aNil)))
 (sRet (mTup (Qa (Qc pLen (Qa (mVar 0) aNil)) (Qa (mVar 3) (Qa (mVar 4) aNil))))))))
def Zv:=runV 3 1 (sSeq (sSet [0] 1 (Qc Xh (Qa (mVar 0) aNil)))
 (sSeq (sExE [1] (Qc ZE (Qa (mVar 1) aNil)))
 (sSeq (sSet [1] 2 (Qc Qad (Qa (mVar 1) aNil)))
 (sRet (mTup (Qa (mVar 2) (Qa (Qc ZG (Qa (mVar 2) (Qa (mVar 1) aNil))) aNil)))))))
def Xl:=runX 3 2 (xSeq (QjN 0 (sSet [1] 2 (Qc Zv (Qa (mVar 1) aNil))))
 (xSeq (Qao [1] "lines" (mVar 1))
 (xSeq (Qao [2] "names" (bin2 pIx (mVar 2) (mN 0)))
 (Qao [2] "book" (bin2 pIx (mVar 2) (mN 1))))))
def ZN:=runV 1 1 (sRet (mIfE (mTru (mVar 0)) (mLst (mMt "str" YJ (mVar 0) (Qa (mC (.str "\n")) aNil))) (mLst (mLim aNil))))
def Ze:=runX 2 2 (QjM 0 [1] (okM "-" "keep") Xl (Qa (Qc ZN (Qa (mVar 1) aNil)) aNil))
def ZD:=(sSeq (sApp [2] 1 (bin2 pIx (mVar 2) (mN 1)))
 (sIf (truB (bin2 pEq (bin2 pIx (mVar 2) (mN 0)) (mC (.str "guess")))) (sApp [2] 1 (bin2 pIx (mVar 2) (mN 2))) (Qm [1,2] 1 (bin2 pCat (mVar 1) (mLst (Qc QbM (Qa (bin2 pIx (mVar 2) (mN 2)) aNil)))))))
def Yi:=runV 3 1 (sSeq (Qm [] 1 (mLim aNil))
 (sSeq (sFor [0] (iLst (mVar 0)) (gSet 2) ZD)
 (Yr 1)))
def Qae:=runV 2 1 (sSeq (sSet [0] 1 (bin2 pSub (Qc pLen (Qa (mVar 0) aNil)) (mN 1)))
 (sSeq (sIf (truB (bin2 pEq (bin2 pIx (mVar 0) (mN 0)) (mC (.str "why")))) (sRet (vOr (bin2 pEq (mVar 1) (mN 1)) (vAnd (bin2 pGt (mVar 1) (mN 2)) (bin2 pEq (bin2 pIx (mVar 0) (mN 2)) (mC (.str "by")))))) sNx)
 (sSeq (sIf (truB (bin2 pEq (bin2 pIx (mVar 0) (mN 0)) (mC (.str "lot")))) (sRet (bin2 pEq (mVar 1) (mN 1))) sNx)
 (sSeq (sIf (truB (bin2 pIn (bin2 pIx (mVar 0) (mN 0)) (mTup (Qa (mC (.str "ranks")) (Qa (mC (.str "book")) aNil))))) (sRet (bin2 pEq (mVar 1) (mN 0))) sNx)
 (sRet (bin2 pIn (bin2 pIx (mVar 0) (mN 0)) (mTup (Qa (mC (.str "flaw")) (Qa (mC (.str "camps")) aNil)))))))))
def Yt(C:Nat->Addr):=runR 1 1 (rIf (bOr (bNot (mTru (Qc Qae (Qa (mVar 0) aNil)))) (bNot (mTru (Qc Qhx (Qa (mLst (Qr (iLst (mLst (sl3 pCut (mVar 0) (mSo (mN 1)) mNo))) 1 [] (gSet 0) QH (Qc QW (Qa (mVar 0) aNil)))) aNil))))) (QeQ (C 19) (Qa (mC (.str "no such line can be asked")) aNil)) (Qcw sNx))
def QE:=runV 1 1 (sSeq (sIf (truB (bin2 pEq (bin2 pIx (mVar 0) (mN 0)) (mC (.str "why")))) (Zk (sl3 pCut (mVar 0) (mSo (mN 3)) mNo)) sNx)
 (sRet (mIfE (truB (bin2 pIn (bin2 pIx (mVar 0) (mN 0)) (mTup (Qa (mC (.str "flaw")) (Qa (mC (.str "camps")) aNil))))) (mLst (sl3 pCut (mVar 0) (mSo (mN 1)) mNo)) (mLst (mLim aNil)))))
def Zz:=runV 1 1 (sRet (mIfE (truB (bin2 pIn (bin2 pIx (mVar 0) (mN 0)) (mTup (Qa (mC (.str "lot")) (Qa (mC (.str "why")) aNil))))) (mLst (sl3 pCut (mVar 0) (mSo (mN 1)) (mSo (mN 2)))) (mLst (mLim aNil))))
def ZJ(C:Nat->Addr):=(rIf (truB (bin2 ZR (mVar 3) (mVar 0))) (QeQ (C 20) (Qa (bin2 pJs (mC (.str "the book has no word ")) (mFv (mVar 3))) aNil)) (Qcw sNx))
def ZI(C:Nat->Addr):=(rIf (truB (bin2 pGe (mMtT Yp (mVar 0) (Qa (mVar 3) aNil)) (Qc pLen (Qa (bin2 pIx (mVar 1) (mN 1)) aNil)))) (QeQ (C 21) (Qa (bin2 pJs (mFv (mVar 3)) (mC (.str " is no guess"))) aNil)) (Qcw sNx))
def ZX(C:Nat->Addr):=runR 4 3 (rSeq (rFor [2,2] (iLst (mLst (bin2 pCat (Qc Zz (Qa (mVar 2) aNil)) (Qc QE (Qa (mVar 2) aNil))))) (gSet 3) (ZJ C))
 (rFor [2] (iLst (Qc QE (Qa (mVar 2) aNil))) (gSet 3) (ZI C)))
def Qam:=(sAug 1 pOr (bin2 pShl (mN 1) (mVar 2)))
noncomputable def Zi:=runV 3 1 (sSeq (sSet [] 1 (mN 0))
 (sSeq (sFor [0] (iSeq (mVar 0)) (gSet 2) Qam)
 (Yr 1)))
def XN:=runV 1 1 (Zk (Qr (iRg1 (mMt0 "int" Qhw (mVar 0))) 1 [0] (gSet 0) (mTru (bin2 pAnd (bin2 pShr (mVar 1) (mVar 0)) (mN 1))) (mVar 0)))
def QJ:=runV 2 2 (sRet (bin2 pAdd (bin2 pAdd (mC (.str "{")) (mMt "str" Qbi (mC (.str " ")) (Qa (mLst (Qr (iLst (Qc XN (Qa (mVar 1) aNil))) 1 [0] (gSet 0) QH (bin2 pIx (mVar 1) (mVar 0)))) aNil))) (mC (.str "}"))))
def Zd(C:Nat->Addr):=runV 2 2 (Zk (mLim (Qa (bin2 pAdd (bin2 pAdd (QbF [C 1,C 2,C 3,C 4] "name" (mVar 0)) (mC (.str " "))) (Qc QJ (Qa (mVar 1) (Qa (QbF [C 1,C 2,C 3,C 4] "reason" (mVar 0)) aNil)))) aNil)))
def Ye:=runV 3 3 (sRet (bin2 pAdd (bin2 pAdd (Qc QJ (Qa (mVar 0) (Qa (mVar 1) aNil))) (mC (.str " "))) (Qc QJ (Qa (mVar 0) (Qa (mVar 2) aNil)))))
def Yk(C:Nat->Addr):=runV 2 2 (Zk (bin2 pCat (mLst (mLim (Qa (QbF [C 1,C 2,C 3,C 4] "name" (mVar 0)) aNil))) (mLst (Qr (iTpl (QbF [C 1,C 2,C 3,C 4] "pairs" (mVar 0))) 2 [1] (Xg 0 1) QH (Qc Ye (Qa (mVar 2) (Qa (mVar 0) (Qa (mVar 1) aNil))))))))
def ZC(C:Nat->Addr):=runV 2 2 (Zk (mLim (Qa (QbF [C 1,C 2,C 3,C 4] "name" (mVar 0)) (Qa (Qc Ye (Qa (mVar 1) (Qa (QbF [C 1,C 2,C 3,C 4] "camp" (mVar 0)) (Qa (QbF [C 1,C 2,C 3,C 4] "reason" (mVar 0)) aNil)))) (Qa (Qc QJ (Qa (mVar 1) (Qa (QbF [C 1,C 2,C 3,C 4] "other" (mVar 0)) aNil))) aNil)))))
def YB(C:Nat->Addr):=runV 2 2 (Zk (mLim (Qa (QbF [C 1,C 2,C 3,C 4] "name" (mVar 0)) aNil)))
def QY:=runV 2 2 (sRet (bin2 pEq (bin2 pAnd (mVar 0) (mVar 1)) (mVar 0)))
def ZU:=(sSeq (sSet [8] 9 (bin2 pShl (mN 1) (bin2 pIx (mVar 8) (mN 0))))
 (sIf (bAnd (bNot (mTru (Qc QY (Qa (mVar 9) (Qa (mVar 4) aNil))))) (mTru (Qc QY (Qa (bin2 pIx (mVar 3) (mVar 7)) (Qa (mVar 4) aNil))))) (sSeq (sAug 4 pOr (mVar 9))
 (sSeq (sApp [7] 5 (mVar 7))
 (sSet [] 6 (mC (.bl true))))) sNx))
def ZT:=(sSeq (sSet [] 6 (mC (.bl false)))
 (sFor [2] (Qc QbN (Qa (mVar 2) aNil)) (Xg 7 8) ZU))
def QS:=runV 10 2 (sSeq (sSet [0] 2 (bin2 pIx (mVar 0) (mN 2)))
 (sSeq (Qm [2] 3 (Qr (iTpl (mVar 2)) 1 [] (gSet 0) QH (Qc Zi (Qa (bin2 pIx (mVar 0) (mN 1)) aNil))))
 (sSeq (sSet [1] 4 (mVar 1))
 (sSeq (Qm [] 5 (mLim aNil))
 (sSeq (sSet [] 6 (mC (.bl true)))
 (sSeq (QeO 1000 (mTru (mVar 6)) ZT)
 (Yr 5)))))))
def QF:=(sSeq (sSet [0,5] 6 (bin2 pIx (bin2 pIx (mVar 0) (mN 2)) (mVar 5)))
 (sIf (mTru (Qc QY (Qa (bin2 pShl (mN 1) (bin2 pIx (mVar 6) (mN 0))) (Qa (mVar 3) aNil)))) (sSeq (sAug 3 pOr (Qc Zi (Qa (bin2 pIx (mVar 6) (mN 1)) aNil)))
 (sApp [5] 4 (mVar 5))) sNx))
def ZY:=runV 7 3 (sSeq (sSet [1] 3 (bin2 pShl (mN 1) (mVar 1)))
 (sSeq (Qm [] 4 (mLim aNil))
 (sSeq (sFor [2] (Qc pRev (Qa (mVar 2) aNil)) (gSet 5) QF)
 (sRet (Qc Qnn (Qa (mVar 4) aNil))))))
def ZA:=runV 3 3 (sRet (bin2 pOr (mVar 1) (Qc Zi (Qa (mLst (Qr (iLst (mVar 2)) 1 [0] (gSet 0) QH (bin2 pIx (bin2 pIx (bin2 pIx (mVar 1) (mN 2)) (mVar 0)) (mN 0)))) aNil))))
def Qhq:=runV 4 3 (sSeq (sSet [0,1] 3 (Qc QS (Qa (mVar 0) (Qa (mVar 1) aNil))))
 (sSeq (sIf (bNot (mTru (Qc QY (Qa (bin2 pShl (mN 1) (mVar 2)) (Qa (Qc ZA (Qa (mVar 0) (Qa (mVar 1) (Qa (mVar 3) aNil)))) aNil))))) (sRet (mC .non)) sNx)
 (sRet (Qc ZY (Qa (mVar 0) (Qa (mVar 2) (Qa (mVar 3) aNil)))))))
def Qz:=runV 2 2 (sSeq (sIf (bNot (mTru (bin2 pIx (mVar 1) (mN 1)))) (sRet (bin2 pIx (mVar 0) (bin2 pIx (mVar 1) (mN 0)))) sNx)
 (sRet (bin2 pAdd (bin2 pAdd (bin2 pIx (mVar 0) (bin2 pIx (mVar 1) (mN 0))) (mC (.str " if "))) (mMt "str" Qbi (mC (.str " ")) (Qa (mLst (Qr (iTpl (bin2 pIx (mVar 1) (mN 1))) 1 [0] (gSet 0) QH (bin2 pIx (mVar 1) (mVar 0)))) aNil)))))
def Qac:=runV 5 4 (sSeq (sSet [1,2,3] 4 (Qc Qhq (Qa (mVar 1) (Qa (mVar 2) (Qa (mVar 3) aNil)))))
 (sSeq (sIf (truB (bin2 pIs (mVar 4) (mC .non))) (Zk (mLim (Qa (mC (.str "no")) aNil))) sNx)
 (Zk (bin2 pCat (mLst (mLim (Qa (mC (.str "yes")) aNil))) (mLst (Qr (iTpl (mVar 4)) 1 [0,1] (gSet 0) QH (Qc Qz (Qa (mVar 1) (Qa (bin2 pIx (bin2 pIx (mVar 2) (mN 2)) (mVar 0)) aNil)))))))))
def XC:=runV 2 2 (sRet (Qc ZA (Qa (mVar 0) (Qa (mVar 1) (Qa (Qc QS (Qa (mVar 0) (Qa (mVar 1) aNil))) aNil)))))
def XL:=runV 3 2 (sSeq (sSet [0,1] 2 (Qc XC (Qa (mVar 0) (Qa (mVar 1) aNil))))
 (sRet (Qc Zi (Qa (mLst (Qr (Qc QbN (Qa (bin2 pIx (mVar 0) (mN 1)) aNil)) 2 [2] (Xg 0 1) (mTru (Qc QY (Qa (bin2 pShl (mN 1) (mVar 1)) (Qa (mVar 2) aNil)))) (mVar 0))) aNil))))
def Yg:=runV 3 3 (sRet (Qc QY (Qa (bin2 pShl (mN 1) (mVar 2)) (Qa (Qc XC (Qa (mVar 0) (Qa (mVar 1) aNil))) aNil))))
def QaF:=(sSeq (sSet [3,4] 5 (bin2 pAnd (mVar 3) (un1 pInv (bin2 pShl (mN 1) (mVar 4)))))
 (sIf (mTru (Qc Yg (Qa (mVar 0) (Qa (mVar 5) (Qa (mVar 2) aNil))))) (sSet [5] 3 (mVar 5)) sNx))
def QD:=runV 6 3 (sSeq (sIf (bNot (mTru (Qc Yg (Qa (mVar 0) (Qa (mVar 1) (Qa (mVar 2) aNil)))))) (sRet (mC .non)) sNx)
 (sSeq (sSet [1] 3 (mVar 1))
 (sSeq (sFor [1] (iLst (Qc XN (Qa (mVar 1) aNil))) (gSet 4) QaF)
 (Yr 3))))
def Zm:=runV 4 3 (sSeq (sSet [1] 3 (bin2 pIx (Qc XN (Qa (mVar 1) aNil)) (mN 0)))
 (sRet (mTup (Qa (mVar 3) (Qa (Qc QD (Qa (mVar 0) (Qa (mVar 2) (Qa (bin2 pIx (bin2 pIx (mVar 0) (mN 1)) (mVar 3)) aNil)))) aNil)))))
def ZB:=runV 1 1 (sRet (bin2 pSub (bin2 pShl (mN 1) (Qc pLen (Qa (bin2 pIx (mVar 0) (mN 1)) aNil))) (mN 1)))
def YA:=runV 2 2 (sRet (bin2 pAnd (Qc ZB (Qa (mVar 0) aNil)) (un1 pInv (Qc XL (Qa (mVar 0) (Qa (mVar 1) aNil))))))
def Zg:=runV 2 2 (sRet (Qc YA (Qa (mVar 0) (Qa (Qc YA (Qa (mVar 0) (Qa (mVar 1) aNil))) aNil))))
def QeP:=runV 4 2 (sSeq (sSet [1,0,1] 2 (bin2 pAnd (mVar 1) (Qc XL (Qa (mVar 0) (Qa (mVar 1) aNil)))))
 (sSeq (sIf (mTru (mVar 2)) (sRet (bin2 Qnp (mTup (Qa (mC (.str "torn")) aNil)) (Qc Zm (Qa (mVar 0) (Qa (mVar 2) (Qa (mVar 1) aNil)))))) sNx)
 (sSeq (sSet [1,0,1] 3 (bin2 pAnd (mVar 1) (un1 pInv (Qc Zg (Qa (mVar 0) (Qa (mVar 1) aNil))))))
 (sSeq (sIf (mTru (mVar 3)) (sRet (bin2 Qnp (mTup (Qa (mC (.str "bare")) aNil)) (Qc Zm (Qa (mVar 0) (Qa (mVar 3) (Qa (Qc YA (Qa (mVar 0) (Qa (mVar 1) aNil))) aNil)))))) sNx)
 (sRet (mC .non))))))
def ZQ:=runV 4 3 (sSeq (sSet [1,2] 3 (Qc QeP (Qa (mVar 1) (Qa (mVar 2) aNil))))
 (sSeq (sIf (truB (bin2 pIs (mVar 3) (mC .non))) (Zk (mLim (Qa (mC (.str "stands")) aNil))) sNx)
 (Zk (mLim (Qa (mMt "str" Qbi (mC (.str " ")) (Qa (mLst (mLim (Qa (bin2 pIx (mVar 3) (mN 0)) (Qa (bin2 pIx (mVar 0) (bin2 pIx (mVar 3) (mN 1))) (Qa (Qc QJ (Qa (mVar 0) (Qa (bin2 pIx (mVar 3) (mN 2)) aNil))) aNil))))) aNil)) aNil)))))
def ZM:=runV 2 2 (sRet (bin2 pAdd (bin2 pAdd (mVar 0) (mC (.str " "))) (mIfE (truB (bin2 pIs (mVar 1) (mC .non))) (mC (.str "-")) (Qc pStr (Qa (mVar 1) aNil)))))
def QcO:=(sSeq (sSet [0,1] 1 (Qc Zg (Qa (mVar 0) (Qa (mVar 1) aNil))))
 (sApp [1] 2 (mVar 1)))
def QbX:=runV 3 1 (sSeq (sSet [] 1 (mN 0))
 (sSeq (Qm [1] 2 (mLim (Qa (mVar 1) aNil)))
 (sSeq (QeO 1000 (truB (bin2 pNe (Qc Zg (Qa (mVar 0) (Qa (mVar 1) aNil))) (mVar 1))) QcO)
 (Yr 2))))
def YY:=(sIf (mTru (Qc QY (Qa (bin2 pShl (mN 1) (mVar 1)) (Qa (mVar 3) aNil)))) (Yr 2) sNx)
def QaS:=runV 4 2 (sSeq (sFor [0] (Qc Qdi (Qa (mVar 0) aNil)) (Xg 2 3) YY)
 (sRet (mC .non)))
def XD:=runV 3 1 (sSeq (sSet [0] 1 (Qc QbX (Qa (mVar 0) aNil)))
 (sSeq (Qm [0,1] 2 (Qr (iRg1 (Qc pLen (Qa (bin2 pIx (mVar 0) (mN 1)) aNil))) 1 [1] (gSet 0) QH (Qc QaS (Qa (mVar 1) (Qa (mVar 0) aNil)))))
 (sRet (mTup (Qa (bin2 pIx (mVar 1) (un1 pNeg (mN 1))) (Qa (Qc YI (Qa (mVar 2) aNil)) aNil))))))
def Xi:=runV 2 2 (Zk (Qr (Qc QbN (Qa (bin2 pIx (Qc XD (Qa (mVar 1) aNil)) (mN 1)) aNil)) 2 [0] (Xg 0 1) QH (Qc ZM (Qa (bin2 pIx (mVar 2) (mVar 0)) (Qa (mVar 1) aNil)))))
def Qaf:=runV 2 2 (sRet (bin2 pEq (bin2 pAnd (mVar 1) (Qc XL (Qa (mVar 0) (Qa (mVar 1) aNil)))) (mN 0)))
def QbW:=runV 2 2 (sRet (vAnd (Qc Qaf (Qa (mVar 0) (Qa (mVar 1) aNil))) (Qc QY (Qa (mVar 1) (Qa (Qc Zg (Qa (mVar 0) (Qa (mVar 1) aNil))) aNil)))))
def QeC:=(sSeq (sSet [2,3] 4 (Qc Qnq (Qa (mLst (Qr (iLst (mVar 2)) 1 [3] (gSet 0) QH (Qc QY (Qa (mVar 1) (Qa (mVar 0) aNil))))) aNil)))
 (sIf (bAnd (bNot (mTru (mVar 4))) (mTru (Qc QbW (Qa (mVar 0) (Qa (mVar 3) aNil))))) (sApp [3] 2 (mVar 3)) sNx))
def d_camps:=(sSeq (Qm [] 2 (mLim aNil))
 (sSeq (Qcv (iRg3 (Qc ZB (Qa (mVar 0) aNil)) (un1 pNeg (mN 1)) (un1 pNeg (mN 1))) (gSet 3) QeC)
 (sRet (Qc YI (Qa (mLst (Qr (Qc pRev (Qa (mVar 2) aNil)) 1 [1] (gSet 0) (mTru (Qc QY (Qa (mVar 1) (Qa (mVar 0) aNil)))) (mVar 0))) aNil)))))
def Qbl:List PV->Option PV:=runV 5 2 d_camps
def Xj:=runV 3 3 (Zk (Qr (iTpl (Qc Qbl (Qa (mVar 1) (Qa (mVar 2) aNil)))) 1 [0] (gSet 0) QH (Qc QJ (Qa (mVar 1) (Qa (mVar 0) aNil)))))
def Ys:=runV 3 3 (sRet (bin2 pAdd (bin2 pAdd (bin2 pAdd (mC (.str "guess ")) (bin2 pIx (mVar 0) (mVar 1))) (mC (.str " unless "))) (bin2 pIx (mVar 0) (mVar 2))))
def Yf:=runV 4 2 (sSeq (Qm [1,0] 2 (Qr (Qc QbN (Qa (bin2 pIx (mVar 1) (mN 1)) aNil)) 2 [0] (Xg 0 1) QH (Qc Ys (Qa (mVar 2) (Qa (mVar 0) (Qa (mVar 1) aNil))))))
 (sSeq (Qm [1,0] 3 (Qr (iTpl (bin2 pIx (mVar 1) (mN 2))) 1 [0] (gSet 0) QH (Qc Qz (Qa (mVar 1) (Qa (mVar 0) aNil)))))
 (sRet (mMt "str" Qbi (mC (.str "\n")) (Qa (mLst (bin2 pCat (mVar 2) (mVar 3))) aNil)))))
def QU:=runX 3 3 (xSeq (Qao [1] "word" (mVar 1))
 (Qao [2] "name" (mVar 2)))
def Zr:=runX 5 5 (xSeq (QeE 0 [0,1] QU (Qa (mVar 0) (Qa (mVar 1) (Qa (mC (.str "maybe")) aNil))))
 (xSeq (Qao [2] "camp" (mVar 2))
 (xSeq (Qao [3] "reason" (mVar 3))
 (Qao [4] "other" (mVar 4)))))
def QV:=runX 3 3 (xSeq (QeE 0 [0,1] QU (Qa (mVar 0) (Qa (mVar 1) (Qa (mC (.str "settled")) aNil))))
 (Qao [2] "reason" (mVar 2)))
def ZH:=runX 3 3 (xSeq (QeE 0 [0,1] QU (Qa (mVar 0) (Qa (mVar 1) (Qa (mC (.str "sure")) aNil))))
 (Qao [2] "pairs" (mVar 2)))
def Zq:=runX 2 2 (QeE 0 [0,1] QU (Qa (mVar 0) (Qa (mVar 1) (Qa (mC (.str "never")) aNil))))
def Qnj(C:Nat->Addr):=runV 6 2 (sSeq (sSet [0,0,1] 2 (Qc QD (Qa (mVar 0) (Qa (bin2 pIx (Qc XD (Qa (mVar 0) aNil)) (mN 0)) (Qa (mVar 1) aNil)))))
 (sSeq (sIf (truB (bin2 QgU (mVar 2) (mC .non))) (sRet (mNew (C 1) QV (Qa (mVar 1) (Qa (mVar 2) aNil)))) sNx)
 (sSeq (Qm [0,0,1] 3 (Qr (iTpl (Qc Qbl (Qa (mVar 0) (Qa (mN 0) aNil)))) 1 [0,1] (gSet 0) QH (mTup (Qa (mVar 0) (Qa (Qc QD (Qa (mVar 1) (Qa (mVar 0) (Qa (mVar 2) aNil)))) aNil)))))
 (sSeq (Qm [3] 4 (Qr (iLst (mVar 3)) 1 [] (gSet 0) (truB (bin2 QgU (bin2 pIx (mVar 0) (mN 1)) (mC .non))) (mVar 0)))
 (sSeq (Qm [3] 5 (Qr (iLst (mVar 3)) 1 [] (gSet 0) (truB (bin2 pIs (bin2 pIx (mVar 0) (mN 1)) (mC .non))) (bin2 pIx (mVar 0) (mN 0))))
 (sSeq (sIf (bNot (mTru (mVar 5))) (sRet (mNew (C 2) ZH (Qa (mVar 1) (Qa (Qc YI (Qa (mVar 4) aNil)) aNil)))) sNx)
 (sSeq (sIf (bNot (mTru (mVar 4))) (sRet (mNew (C 4) Zq (Qa (mVar 1) aNil))) sNx)
 (sRet (mNew (C 3) Zr (Qa (mVar 1) (Qa (bin2 pIx (bin2 pIx (mVar 4) (mN 0)) (mN 0)) (Qa (bin2 pIx (bin2 pIx (mVar 4) (mN 0)) (mN 1)) (Qa (bin2 pIx (mVar 5) (mN 0)) aNil)))))))))))))
def QbY(C:Nat->Addr):=runV 5 3 (sSeq (Qm [2,0] 3 (Qr (iLst (Qc Zz (Qa (mVar 2) aNil))) 1 [0] (gSet 0) QH (mMtT Yp (mVar 1) (Qa (mVar 0) aNil))))
 (sSeq (sSet [2,0] 4 (Qc Zi (Qa (mLst (Qr (iLst (Qc QE (Qa (mVar 2) aNil))) 1 [0] (gSet 0) QH (mMtT Yp (mVar 1) (Qa (mVar 0) aNil)))) aNil)))
 (sSeq (sIf (truB (bin2 pEq (bin2 pIx (mVar 2) (mN 0)) (mC (.str "lot")))) (sRet (Qkm [(C 1,(Zd C)),(C 2,(Yk C)),(C 3,(ZC C)),(C 4,(YB C))] "shown" (Qc (Qnj C) (Qa (mVar 1) (Qa (bin2 pIx (mVar 3) (mN 0)) aNil))) (Qa (mVar 0) aNil))) sNx)
 (sSeq (sIf (truB (bin2 pEq (bin2 pIx (mVar 2) (mN 0)) (mC (.str "why")))) (sRet (Qc Qac (Qa (mVar 0) (Qa (mVar 1) (Qa (mVar 4) (Qa (bin2 pIx (mVar 3) (mN 0)) aNil)))))) sNx)
 (sSeq (sIf (truB (bin2 pEq (bin2 pIx (mVar 2) (mN 0)) (mC (.str "flaw")))) (sRet (Qc ZQ (Qa (mVar 0) (Qa (mVar 1) (Qa (mVar 4) aNil))))) sNx)
 (sSeq (sIf (truB (bin2 pEq (bin2 pIx (mVar 2) (mN 0)) (mC (.str "ranks")))) (sRet (Qc Xi (Qa (mVar 0) (Qa (mVar 1) aNil)))) sNx)
 (sSeq (sIf (truB (bin2 pEq (bin2 pIx (mVar 2) (mN 0)) (mC (.str "camps")))) (sRet (Qc Xj (Qa (mVar 0) (Qa (mVar 1) (Qa (mVar 4) aNil))))) sNx)
 (sRet (Qc ZN (Qa (Qc Yf (Qa (mVar 0) (Qa (mVar 1) aNil))) aNil))))))))))
def Qq(C:Nat->Addr):=runR 3 2 (rSeq (rIf (mTru (mMt "str" Qbn (mVar 1) (Qa (mC (.str "tell ")) aNil))) rNone (Qcw sNx))
 (rSeq (rIf (mTru (mMt "str" Qbn (mVar 1) (Qa (mC (.str "drop ")) aNil))) rNone (Qcw sNx))
 (rSeq (Qcw (Qm [1] 2 (mMt "str" YJ (mVar 1) (Qa (mC (.str " ")) aNil))))
 (rSeq (rExE [2] (Yt C) (Qa (mVar 2) aNil))
 (rSeq (rExE [0,0,2] (ZX C) (Qa (mFld (C 5) "names" (mVar 0)) (Qa (mFld (C 5) "book" (mVar 0)) (Qa (mVar 2) aNil))))
 (Qcw (sRet (Qc (QbY C) (Qa (mFld (C 5) "names" (mVar 0)) (Qa (mFld (C 5) "book" (mVar 0)) (Qa (mVar 2) aNil)))))))))))
def QG:=runV 6 2 (sSeq (Qm [] 2 (mLim (Qa (mC (.str "lot")) (Qa (mC (.str "why")) (Qa (mC (.str "flaw")) (Qa (mC (.str "ranks")) (Qa (mC (.str "camps")) (Qa (mC (.str "book")) (Qa (mC (.str "why")) (Qa (mC (.str "flaw")) (Qa (mC (.str "lot")) (Qa (mC (.str "camps")) (Qa (mC (.str "tell")) (Qa (mC (.str "drop")) aNil))))))))))))))
 (sSeq (sSet [2,0] 3 (bin2 pIx (mVar 2) (bin2 pMod (bin2 pIx (mVar 0) (mN 0)) (mN 12))))
 (sSeq (sIf (truB (bin2 pGt (bin2 pMod (bin2 pIx (mVar 0) (mN 26)) (mN 6)) (mN 0))) (Yr 3) sNx)
 (sSeq (sIf (bAnd (truB (bin2 pGt (Qc pLen (Qa (mVar 1) aNil)) (mN 0))) (truB (bin2 pEq (bin2 pMod (bin2 pIx (mVar 0) (mN 27)) (mN 3)) (mN 0)))) (sRet (bin2 pIx (mVar 1) (bin2 pMod (bin2 pIx (mVar 0) (mN 28)) (Qc pLen (Qa (mVar 1) aNil))))) sNx)
 (sSeq (sSet [0,3] 4 (bin2 pMod (bin2 pIx (mVar 0) (mN 28)) (bin2 pAdd (Qc pLen (Qa (mVar 3) aNil)) (mN 1))))
 (sSeq (sSet [0] 5 (bin2 pIx (mC (.str "abcdefghijklmnopqrstuvwxyzL!")) (bin2 pMod (bin2 pIx (mVar 0) (mN 29)) (mN 28))))
 (sRet (bin2 pAdd (bin2 pAdd (sl3 ZV (mVar 3) mNo (mSo (mVar 4))) (bin2 pIx (mLst (mLim (Qa (mVar 5) (Qa (mC (.str "")) (Qa (mVar 5) aNil))))) (bin2 pMod (bin2 pIx (mVar 0) (mN 27)) (mN 3)))) (sl3 ZV (mVar 3) (mSo (bin2 pAdd (mVar 4) (bin2 pMod (bin2 pIx (mVar 0) (mN 30)) (mN 2)))) mNo)))))))))
def QP:=runV 1 1 (sSeq (sIf (truB (bin2 pEq (bin2 pIx (mVar 0) (mN 0)) (mC (.str "guess")))) (sRet (bin2 pAdd (bin2 pAdd (bin2 pAdd (mC (.str "guess ")) (bin2 pIx (mVar 0) (mN 1))) (mC (.str " unless "))) (bin2 pIx (mVar 0) (mN 2)))) sNx)
 (sSeq (sIf (truB (bin2 pEq (Qc pLen (Qa (bin2 pIx (mVar 0) (mN 2)) aNil)) (mN 0))) (sRet (bin2 pIx (mVar 0) (mN 1))) sNx)
 (sRet (bin2 pAdd (bin2 pAdd (bin2 pIx (mVar 0) (mN 1)) (mC (.str " if "))) (mMt "str" QeS (mC (.str " ")) (Qa (bin2 pIx (mVar 0) (mN 2)) aNil))))))
def QO:=runV 5 2 (sSeq (sSet [] 2 (mC (.str "ABZ019 -_'.,;!?{}()\n\nabcz  ")))
 (sSeq (sSet [1,0] 3 (bin2 pMod (bin2 pIx (mVar 1) (mN 31)) (bin2 pAdd (Qc pLen (Qa (mVar 0) aNil)) (mN 1))))
 (sSeq (sIf (truB (bin2 pEq (bin2 pMod (bin2 pIx (mVar 1) (mN 32)) (mN 3)) (mN 0))) (sSet [0] 3 (Qc pLen (Qa (mVar 0) aNil))) sNx)
 (sSeq (sSet [2,1,2] 4 (bin2 pIx (mVar 2) (bin2 pMod (bin2 pIx (mVar 1) (mN 33)) (Qc pLen (Qa (mVar 2) aNil)))))
 (sRet (bin2 pAdd (bin2 pAdd (sl3 ZV (mVar 0) mNo (mSo (mVar 3))) (mVar 4)) (sl3 ZV (mVar 0) (mSo (bin2 pAdd (mVar 3) (bin2 pMod (bin2 pIx (mVar 1) (mN 34)) (mN 2)))) mNo)))))))
def QT:=runV 6 2 (sSeq (sSet [] 2 (mC (.str "abcdefghijklmnopqrstuvwxyz")))
 (sSeq (sIf (bOr (truB (bin2 pEq (Qc pLen (Qa (mVar 1) aNil)) (mN 0))) (truB (bin2 pEq (bin2 pMod (bin2 pIx (mVar 0) (mN 22)) (mN 4)) (mN 0)))) (sRet (Qc QI (Qa (bin2 pIx (mVar 0) (mN 23)) (Qa (bin2 pAdd (mN 1) (bin2 pMod (bin2 pIx (mVar 0) (mN 24)) (mN 12))) aNil)))) sNx)
 (sSeq (sSet [1,0,1] 3 (bin2 pIx (mVar 1) (bin2 pMod (bin2 pIx (mVar 0) (mN 23)) (Qc pLen (Qa (mVar 1) aNil)))))
 (sSeq (sSet [0,3] 4 (bin2 pMod (bin2 pIx (mVar 0) (mN 24)) (Qc pLen (Qa (mVar 3) aNil))))
 (sSeq (sSet [2,0] 5 (bin2 pIx (mVar 2) (bin2 pMod (bin2 pIx (mVar 0) (mN 25)) (mN 26))))
 (sRet (bin2 pIx (mLst (mLim (Qa (sl3 ZV (mVar 3) mNo (mSo (un1 pNeg (mN 1)))) (Qa (bin2 pAdd (mVar 3) (mVar 5)) (Qa (bin2 pAdd (bin2 pAdd (sl3 ZV (mVar 3) mNo (mSo (mVar 4))) (mVar 5)) (sl3 ZV (mVar 3) (mSo (bin2 pAdd (mVar 4) (mN 1))) mNo)) aNil))))) (bin2 pSub (bin2 pMod (bin2 pIx (mVar 0) (mN 22)) (mN 4)) (mN 1)))))))))
def Zf:=(sSeq (sSet [3,0,6] 7 (bin2 pIx (mVar 3) (bin2 pMod (bin2 pIx (mVar 0) (bin2 pAdd (mN 2) (mVar 6))) (mN 11))))
 (sSeq (sIf (truB (bin2 pEq (bin2 pMod (bin2 pIx (mVar 0) (bin2 pAdd (mN 12) (mVar 6))) (mN 8)) (mN 0))) (sSet [0,1] 7 (Qc QT (Qa (mVar 0) (Qa (mVar 1) aNil)))) (sIf (bAnd (truB (bin2 pGt (Qc pLen (Qa (mVar 1) aNil)) (mN 0))) (truB (bin2 pGt (bin2 pMod (bin2 pIx (mVar 0) (bin2 pAdd (mN 12) (mVar 6))) (mN 8)) (mN 1)))) (sSet [1,0,6,1] 7 (bin2 pIx (mVar 1) (bin2 pMod (bin2 pIx (mVar 0) (bin2 pAdd (mN 2) (mVar 6))) (Qc pLen (Qa (mVar 1) aNil))))) sNx))
 (sSeq (sIf (bAnd (truB (bin2 pEq (bin2 pIx (mVar 4) (mN 0)) (mC (.str "why")))) (bAnd (truB (bin2 pEq (mVar 6) (mN 1))) (truB (bin2 pGt (bin2 pMod (bin2 pIx (mVar 0) (mN 37)) (mN 4)) (mN 0))))) (sSet [] 7 (mC (.str "by"))) sNx)
 (sApp [7] 4 (mVar 7)))))
def Ya:=runV 9 3 (sSeq (Qm [] 3 (mLim (Qa (mC (.str "guess")) (Qa (mC (.str "unless")) (Qa (mC (.str "if")) (Qa (mC (.str "")) (Qa (mC (.str "abcdefghijklm")) (Qa (mC (.str "a1")) aNil))))))))
 (sSeq (Qm [3] 3 (bin2 pCat (mVar 3) (mLst (mLim (Qa (mC (.str "Ab")) (Qa (mC (.str "a\nb")) (Qa (mC (.str "by")) (Qa (mC (.str "by")) (Qa (mC (.str "zzzzzzzzzzzz")) aNil)))))))))
 (sSeq (Qm [0,1] 4 (mLim (Qa (Qc QG (Qa (mVar 0) (Qa (mVar 1) aNil))) aNil)))
 (sSeq (sSet [0,0,0] 5 (bin2 pAdd (bin2 pMod (bin2 pIx (mVar 0) (mN 1)) (mN 5)) (bin2 pMul (bin2 pDiv (bin2 pMod (bin2 pIx (mVar 0) (mN 35)) (mN 5)) (mN 4)) (bin2 pMod (bin2 pIx (mVar 0) (mN 36)) (mN 5)))))
 (sSeq (Qcv (iRg1 (mVar 5)) (gSet 6) Zf)
 (sSeq (sSet [4] 8 (mMt "str" Qbi (mC (.str " ")) (Qa (mVar 4) aNil)))
 (sSeq (sIf (bAnd (truB (bin2 pEq (bin2 pMod (bin2 pIx (mVar 0) (mN 38)) (mN 8)) (mN 0))) (truB (bin2 pGt (Qc pLen (Qa (mVar 2) aNil)) (mN 0)))) (sSet [2,0,2] 8 (Qc QP (Qa (bin2 pIx (mVar 2) (bin2 pMod (bin2 pIx (mVar 0) (mN 39)) (Qc pLen (Qa (mVar 2) aNil)))) aNil))) sNx)
 (sSeq (sIf (truB (bin2 pEq (bin2 pMod (bin2 pIx (mVar 0) (mN 38)) (mN 8)) (mN 1))) (sSet [8,0] 8 (Qc QO (Qa (mVar 8) (Qa (mVar 0) aNil)))) sNx)
 (sSeq (sIf (bOr (truB (bin2 pEq (sl3 ZV (mVar 8) mNo (mSo (mN 5))) (mC (.str "tell ")))) (truB (bin2 pEq (sl3 ZV (mVar 8) mNo (mSo (mN 5))) (mC (.str "drop "))))) (sRet (sl3 ZV (mVar 8) mNo (mSo (mN 4)))) sNx)
 (Yr 8))))))))))
def Qo(C:Nat->Addr)(f a:Addr):=(sSeq (Qm [6,6,6] 3 (mLim (Qa (mIsE 6 a (lkB [(C 19,true),(C 20,false),(C 21,false)] f)) (Qa (mIsE 6 a (lkB [(C 19,false),(C 20,true),(C 21,false)] f)) (Qa (mIsE 6 a (lkB [(C 19,false),(C 20,false),(C 21,true)] f)) aNil)))))
 (sSeq (Qm [6,6,6] 4 (mLim (Qa (mIsE 6 a (lkB [(C 19,false),(C 20,false),(C 21,false)] f)) (Qa (mIsE 6 a (lkB [(C 19,false),(C 20,false),(C 21,false)] f)) (Qa (vNot (mIsE 6 a (lkB [(C 19,true),(C 20,true),(C 21,true)] f))) aNil)))))
 (Qm [4,6,6,6] 4 (bin2 pCat (mVar 4) (mLst (mLim (Qa (mIsE 6 a (lkB [(C 19,false),(C 20,false),(C 21,false)] f)) (Qa (mIsE 6 a (lkB [(C 19,false),(C 20,false),(C 21,false)] f)) (Qa (mIsE 6 a (lkB [(C 19,false),(C 20,false),(C 21,false)] f)) aNil)))))))))
def XZ(C:Nat->Addr):=(sSeq (Qm [] 3 (mLim aNil))
 (sSeq (Qm [] 4 (mLim aNil))
 (sSeq (sSet [] 5 (mC .non))
 (sSeq (sTry 6 [C 19,C 20,C 21] (Qnk [0,1] 5 (C 5) "ask" (Qq C) (mVar 0) (Qa (mVar 1) aNil)) (Qo C))
 (sSeq (sIf (truB (bin2 pLt (mVar 2) (mN 0))) (sRet (vAnd (bin2 pEq (mVar 3) (mLst (mLim aNil))) (vAnd (mIsi Qnv (mVar 5)) (bin2 pEq (Qc pLen (Qa (mLst (Qr (iLst (mVar 5)) 1 [] (gSet 0) (bNot (mTru (mIsi Qnu (mVar 0)))) (mVar 0))) aNil)) (mN 0))))) sNx)
 (sRet (vAnd (bin2 pEq (mVar 3) (mLst (Qr (iRg1 (mN 3)) 1 [2] (gSet 0) QH (bin2 pEq (mVar 0) (mVar 1))))) (bin2 pEq (mVar 4) (mLst (bin2 pRep (mLst (mLim (Qa (mC (.bl false)) aNil))) (mN 6)))))))))))
def Zc(C:Nat->Addr):List PV->Option PV:=runV 7 3 (XZ C)
def Yh:=runV 1 1 (sSeq (sIf (bOr (bAnd (truB (bin2 pEq (bin2 pIx (mVar 0) (mN 0)) (mC (.str "lot")))) (truB (bin2 pEq (Qc pLen (Qa (mVar 0) aNil)) (mN 2)))) (bAnd (truB (bin2 pEq (bin2 pIx (mVar 0) (mN 0)) (mC (.str "why")))) (truB (bin2 pEq (Qc pLen (Qa (mVar 0) aNil)) (mN 2))))) (Zk (mLim (Qa (mLst (sl3 pCut (mVar 0) (mSo (mN 1)) mNo)) (Qa (mLst (mLim aNil)) aNil)))) sNx)
 (sSeq (sIf (bAnd (truB (bin2 pEq (bin2 pIx (mVar 0) (mN 0)) (mC (.str "why")))) (bAnd (truB (bin2 pGt (Qc pLen (Qa (mVar 0) aNil)) (mN 3))) (truB (bin2 pEq (bin2 pIx (mVar 0) (mN 2)) (mC (.str "by")))))) (Zk (mLim (Qa (mLst (sl3 pCut (mVar 0) (mSo (mN 1)) (mSo (mN 2)))) (Qa (mLst (sl3 pCut (mVar 0) (mSo (mN 3)) mNo)) aNil)))) sNx)
 (sSeq (sIf (bOr (truB (bin2 pEq (bin2 pIx (mVar 0) (mN 0)) (mC (.str "flaw")))) (truB (bin2 pEq (bin2 pIx (mVar 0) (mN 0)) (mC (.str "camps"))))) (Zk (mLim (Qa (mLst (mLim aNil)) (Qa (mLst (sl3 pCut (mVar 0) (mSo (mN 1)) mNo)) aNil)))) sNx)
 (sSeq (sIf (bAnd (truB (bin2 pEq (Qc pLen (Qa (mVar 0) aNil)) (mN 1))) (bOr (truB (bin2 pEq (bin2 pIx (mVar 0) (mN 0)) (mC (.str "ranks")))) (truB (bin2 pEq (bin2 pIx (mVar 0) (mN 0)) (mC (.str "book")))))) (Zk (mLim (Qa (mLst (mLim aNil)) (Qa (mLst (mLim aNil)) aNil)))) sNx)
 (Zk (mLim aNil))))))
def YM:=(sIf (truB (bin2 Qgz (mVar 1) (mC (.str "abcdefghijklmnopqrstuvwxyz")))) (sRet (mC (.bl false))) sNx)
def Xk:=runV 2 1 (sSeq (sIf (truB (bin2 pIn (mVar 0) (mTup (Qa (mC (.str "guess")) (Qa (mC (.str "unless")) (Qa (mC (.str "if")) aNil)))))) (sRet (mC (.bl false))) sNx)
 (sSeq (sFor [0] (iStr (mVar 0)) (gSet 1) YM)
 (sRet (ch3 pLe pLe (mN 1) (Qc pLen (Qa (mVar 0) aNil)) (mN 12)))))
def Yx:=(sIf (bNot (mTru (Qc Xk (Qa (mVar 3) aNil)))) (sRet (mN 0)) sNx)
def Yw:=(sIf (truB (bin2 ZR (mVar 3) (mVar 4))) (sRet (mN 1)) sNx)
def Yv:=(sIf (truB (bin2 ZR (mVar 3) (mVar 5))) (sRet (mN 2)) sNx)
def Yj:=runV 6 2 (sSeq (sSet [0] 2 (Qc Yh (Qa (mLst (mMt "str" YJ (mVar 0) (Qa (mC (.str " ")) aNil))) aNil)))
 (sSeq (sIf (truB (bin2 pEq (mVar 2) (mLst (mLim aNil)))) (sRet (mN 0)) sNx)
 (sSeq (sFor [2,2] (iLst (mLst (bin2 pCat (bin2 pIx (mVar 2) (mN 0)) (bin2 pIx (mVar 2) (mN 1))))) (gSet 3) Yx)
 (sSeq (sSet [1] 4 (Qc Yi (Qa (mVar 1) aNil)))
 (sSeq (sFor [2,2] (iLst (mLst (bin2 pCat (bin2 pIx (mVar 2) (mN 0)) (bin2 pIx (mVar 2) (mN 1))))) (gSet 3) Yw)
 (sSeq (Qm [1] 5 (Qr (iLst (mVar 1)) 1 [] (gSet 0) (truB (bin2 pEq (bin2 pIx (mVar 0) (mN 0)) (mC (.str "guess")))) (bin2 pIx (mVar 0) (mN 1))))
 (sSeq (sFor [2] (iLst (bin2 pIx (mVar 2) (mN 1))) (gSet 3) Yv)
 (sRet (un1 pNeg (mN 1))))))))))
def Qan(C:Nat->Addr):=(sSeq (sSet [6,3,1] 7 (Qc Ya (Qa (Qc Za (Qa (mVar 6) (Qa (mN 40) aNil))) (Qa (mVar 3) (Qa (mVar 1) aNil)))))
 (sIf (bNot (mTru (Qc (Zc C) (Qa (mVar 2) (Qa (mVar 7) (Qa (Qc Yj (Qa (mVar 7) (Qa (mVar 1) aNil))) aNil)))))) (sRet (mC (.bl false))) sNx))
def QaT(C:Nat->Addr):=runV 8 1 (sSeq (sSet [0] 1 (Qc Yu (Qa (mVar 0) aNil)))
 (sSeq (sSet [1] 2 (mNew (C 5) Ze (Qa (mMt "str" Qbi (mC (.str "\n")) (Qa (mLst (Qr (iLst (mVar 1)) 1 [] (gSet 0) QH (Qc QP (Qa (mVar 0) aNil)))) aNil)) aNil)))
 (sSeq (sSet [1] 3 (Qc Yi (Qa (mVar 1) aNil)))
 (sSeq (Qm [2,2] 4 (mLim (Qa (Qhz (C 5) "ask" (QfW (Qq C)) (mVar 2) (Qa (mC (.str "book")) aNil)) (Qa (Qhz (C 5) "ask" (QfW (Qq C)) (mVar 2) (Qa (mC (.str "ranks")) aNil)) aNil))))
 (sSeq (Qm [4,4] 5 (mLim (Qa (mLst (Qc QbM (Qa (bin2 pIx (mVar 4) (mN 0)) aNil))) (Qa (mLst (Qc QbM (Qa (bin2 pIx (mVar 4) (mN 1)) aNil))) aNil))))
 (sSeq (sFor [0] (iLst (mLst (sl3 pCut (mVar 0) (mSo (mN 3)) (mSo (mN 43))))) (gSet 6) (Qan C))
 (sRet (vAnd (bin2 pEq (mVar 4) (mVar 5)) (bin2 pEq (mLst (mLim (Qa (Qhz (C 5) "ask" (QfW (Qq C)) (mVar 2) (Qa (mC (.str "book")) aNil)) (Qa (Qhz (C 5) "ask" (QfW (Qq C)) (mVar 2) (Qa (mC (.str "ranks")) aNil)) aNil)))) (mVar 5))))))))))
section
open Builtin.Str StrLaws
noncomputable def posL(c:Nat):List Nat->Nat->List Nat
 |[],_=>[]
 |d::l,a=>if d=c then a::posL c l (a+1) else posL c l (a+1)
noncomputable def splL(c:Nat):List Nat->List (List Nat)
 |[]=>[[]]
 | d::l=>if d=c then []::splL c l else match splL c l with
  |h::t=>(d::h)::t
  |[]=>[[d]]
def QcE c l:∃h t,splL c l=h::t:=by
 cases l with
 |nil=>exact⟨_,_,rfl⟩
 |cons d l =>
  unfold splL;split
  .exact⟨_,_,rfl⟩
  .cases splL c l with
   |nil=>exact⟨_,_,rfl⟩
   |cons h t=>exact⟨_,_,rfl⟩
theorem QcD:∀{w:List Nat},c∉w->splL c w=[w]
 |[],_=>rfl
 |d::w,h=>by
  unfold splL;rw[aK (λe=>h (by simp[e])),QcD (λe=>h (by simp[e]))]
theorem Qee:∀{w rest:List Nat},c∉w->splL c (w++c::rest)=w::splL c rest
 |[],rest,_=>by
  show splL c (c::rest)=_;conv=>lhs;unfold splL
  rw[au rfl]
 |d::w,rest,h=>by
  show splL c (d::(w++c::rest))=_;conv=>lhs;unfold splL
  rw[aK (λe=>h (by simp[e])),Qee (λe=>h (by simp[e]))]
def QkB x c i:subAt x ⟨#[c]⟩ i=true↔x.cps.toList[i]?=some c:=by
 rw[subAt_eq];show((x.cps.toList.drop i).take 1==[c])=true↔_;rw[bg];constructor
 .intro h;have:=congrArg (λl=>l[0]?) h;simpa using this
 .intro h;rw[b7 (aw.mp h).1,(aw.mp h).2];simp
theorem QdV x c:∀k a l f,a+k=x.length+1->l.size<=a->f<=a ->
  (forIn (List.range' a k) (l,f) (occBody x ⟨#[c]⟩ x.length (x.length+1))).run.fst.toList=l.toList++posL c (x.cps.toList.drop a) a
 |0,a,l,f,h1,_,_=>by
  have D:x.cps.toList.length=x.length:=by simp[cw]
  have:x.cps.toList.drop a=[]:=dL (by lia);rw[this];simp[posL]
 |k+1,a,l,f,h1,h2,E=>by
  rw[mj,jy];by_cases j:subAt x ⟨#[c]⟩ a=true
  .have B:=(QkB x c a).mp j;have hl:=(aw.mp B).1;have D:x.cps.toList.length=x.length:=by simp[cw]
   have e:occBody x ⟨#[c]⟩ x.length (x.length+1) a (l,f)=pure (cA (l.push a,a+1)):=by
    delta occBody;rw[au]
    .rfl
    .simp[j];refine⟨by lia,?_⟩;show a+1<=x.length;lia
   rw[e];refine Eq.trans (QdV x c k (a+1) (l.push a) (a+1) (by lia) (by simp;lia) (aB _)) ?_;rw[b7 hl,(aw.mp B).2];simp[posL]
  .have e:occBody x ⟨#[c]⟩ x.length (x.length+1) a (l,f)=pure (cA (l,f)):=by
    delta occBody;rw[aK (by simp[j])]
    try rfl
   rw[e];refine Eq.trans (QdV x c k (a+1) l f (by lia) (by lia) (by lia)) ?_;congr 1;by_cases hl:a<x.cps.toList.length
   .rw[b7 hl];conv=>rhs;unfold posL
    rw[aK];intro z;exact j ((QkB x c a).mpr (by rw[aR hl,z]))
   .rw[dL (by lia),dL (by lia)];rfl
theorem QaV x c:∀n s a,a+n=x.cps.toList.length->s<=a->∃h t,splL c (x.cps.toList.drop a)=h::t /\
  partsFrom x 1 s (posL c (x.cps.toList.drop a) a)=⟨((x.cps.toList.drop s).take (a-s)++h).toArray⟩::t.map λl=>⟨l.toArray⟩
 |0,s,a,h1,h2=>by
  rw[dL (by lia)];refine⟨[],[],rfl,?_⟩;show [strSub x s x.length]=_;have f:x.cps.toList.length=x.length:=by simp[cw]
  simp;congr 1;apply Str.ext';apply fK.mp;rw[strSub_toList];rw[show x.length-s=a-s by lia]
 |n+1,s,a,h1,h2=>by
  have hl:a<x.cps.toList.length:=by lia
  rw[b7 hl];unfold splL posL;by_cases hc:x.cps.toList[a]=c
  .rw[au hc,au hc];obtain⟨h,t,e1,e2⟩:=QaV x c n (a+1) (a+1) (by lia) (aB _);refine⟨[],_,rfl,?_⟩;show strSub x s a::partsFrom x 1 (a+1) _=_;rw[e2,e1];congr 1
   .apply Str.ext';apply fK.mp;rw[strSub_toList];simp
   .simp
  .rw[aK hc,aK hc];obtain⟨h,t,e1,e2⟩:=QaV x c n s (a+1) (by lia) (by lia);rw[e1];refine⟨x.cps.toList[a]::h,t,rfl,?_⟩;rw[e2];congr 2;rw[show a+1-s=(a-s)+1 by lia,List.take_succ_eq_append_getElem (by rw[dr];lia),gC,lS];have e3:s+(a-s)=a:=by lia
   simp only[fG,e3]
def sp:Str := " "
def sp_is:sp=⟨#[32]⟩:=by decide+kernel
def Qec x:cC x sp=(splL 32 x.cps.toList).map λl=>⟨l.toArray⟩:=by
 have j:x.cps.toList.length=x.length:=by simp[cw]
 have ho:occurrences x sp 0 x.length (x.length+1)=posL 32 x.cps.toList 0:=by
  rw[occ_eq];have:=QdV x 32 (x.length+1) 0 #[] 0 (by lia) (by simp) (aB _);rw[<-sp_is]at this;simpa using this
 obtain⟨h,t,e1,e2⟩:=QaV x 32 x.cps.toList.length 0 0 (by lia) (aB _);rw[gv]at e1 e2;have main:partsFrom x 1 0 (posL 32 x.cps.toList 0)=(splL 32 x.cps.toList).map λl=>⟨l.toArray⟩:=by
  rw[e2,e1];simp
 delta cC;rw[ho];by_cases h0:posL 32 x.cps.toList 0=[]
 .rw[h0]at main;have one:[x]=(splL 32 x.cps.toList).map λl=>⟨l.toArray⟩:=by
   rw[<-main];show [x]=[strSub x 0 x.length];rw[sub_whole]
  rw[h0];split
  .exact one
  .exact one
 .have f:¬(decide (x.length<sp.length)||decide (cu x<cu sp))=true:=by
   have k1:cu sp=1:=by decide+kernel
   have k2:1<=cu x:=by delta cu;split;lia;split<;>lia
   have k3:sp.length=1:=rfl;have B:0<x.cps.toList.length:=by
    cases L:x.cps.toList with
    |nil=>rw[L]at h0;exact absurd rfl h0
    |cons _ _=>simp
   simp;lia
  rw[aK f,aK (by simpa using h0),partsBetween_eq];exact main
def Qja:∀w ws,(∀s∈w::ws,32∉s.cps.toList)->cC (a5 sp (w::ws)) sp=w::ws:=by
 have key:∀w ws,(∀s∈w::ws,32∉s.cps.toList)->splL 32 (a5 sp (w::ws)).cps.toList=(w::ws).map λs=>s.cps.toList:=by
  intro w ws;induction ws generalizing w with
  |nil =>
   intro h;rw[QaQ,QcD (h w (by simp))];rfl
  |cons v ws f =>
   intro h;rw[Zs];have e:(w++sp++a5 sp (v::ws)).cps.toList=w.cps.toList++32::(a5 sp (v::ws)).cps.toList:=by
    show(w.cps++sp.cps++(a5 sp (v::ws)).cps).toList=_;rw[show sp.cps = #[32] by rw[sp_is]];simp
   rw[e,Qee (h w (by simp)),f v λs j=>h s (ax _ j)];rfl
 intro w ws h;rw[Qec,key w ws h,aH];exact List.map_id' _
end
def Low(s:Str):Prop:=∀c∈s.cps.toList,97<=c/\c<=122
def no3:List Str:=["guess","unless","if"]
structure Wd (s:Str):Prop where
 l1:1<=s.length
 l2:s.length<=12
 low:Low s
 no:s∉no3
def YZ(h:Low s):ar s=true:=by
 delta ar;rw[gy];intro c hc;have:=h c (by grind);lia
def Qmn(h:Low s):(s.cps.all (· < 128))=true:=by
 rw[gy];intro c hc;have:=h c (by simpa using hc);simp;lia
def QeX(h:Low s):32∉s.cps.toList:=λz=>by
 have:=h 32 z;lia
def QgD(h1:Low a)(h2:Low b):Low (a++b):=λc hc=>by
 have hc:c∈(a.cps++b.cps).toList:=hc;rw[fW]at hc;rcases aP.mp hc with z | z
 .exact h1 c z
 .exact h2 c z
def ok3:∀s∈no3,ar s=true:=by decide+kernel
def no_any(h:s∉no3):no3.any (·==s)=false:=by
 rw[fw];intro x f e;exact h (by rw[<-bg.mp e];exact f)
def pIn_3(h:Low s):pIn (.str s) (.tup [.str "guess",.str "unless",.str "if"])=some (.bl (no3.any (·==s))):=by
 show pIn (.str s) (.tup (no3.map .str))=_;rw[Qdh (YZ h) ok3]
def pIn_no(h:Wd s):pIn (.str s) (.tup [.str "guess",.str "unless",.str "if"])=some (.bl false):=by
 rw[pIn_3 h.low,no_any h.no]
def sLe_a(h:97<=c):sLe "a" ⟨#[c]⟩=true:=by
 show(!decide ([c]<[97]))=true;rw[gt,gQ];simp;omega
def sLe_z(h:c<=122):sLe ⟨#[c]⟩ "z"=true:=by
 show(!decide ([122]<[c]))=true;rw[gt,gQ];simp;omega
def pLeS_s a b:pLeS (.str a) (.str b)=some (.bl (sLe a b)):=rfl
def ev_iStr m f:iStr m f=(m f).bind itX:=rfl
def itX_low(h:Low s):itX (.str s)=some (Xs s):=au (Qmn h)
def signs_len s:(Xs s).length=s.length:=by delta Xs;simp[cw]
def QdU(bs:List Bool):Qhx [.lst (bs.map .bl)]=some (.bl (bs.all id)):=by
 show(bls? (bs.map PV.bl)).map (λbs=>PV.bl (bs.all id))=_;rw[Qez];rfl
def EVl:=ae (ae EVc @List.length_range) (ae (ae (ae (ae @aG.{0} @cN.{0}) (ae @if_true.{1} @ba.{0,0})) (ae (ae @ja.{0,0} @lb.{0}) (ae @iG.{0} (ae @fJ.{0} @ii.{0})))) (ae (ae (ae @List.getElem?_cons_zero.{0} @j8.{0}) (ae @a9.{0,0} (ae @eX.{0,0} @List.set_cons_zero.{0}))) (ae (ae @lE.{0} @ai.{0,0}) (ae @List.all_nil.{0} (ae @fL.{0} @aO.{0})))))
local macro_rules|`(tactic| fail"e")=>`(tactic| first|assumption|omega|(simp only[signs_len,encN_len,List.length_map,List.length_range,List.length_cons,List.length_nil,List.length_append];omega)|decide)
local macro_rules|`(tactic| walk_at "ev")=>`(tactic| try simp (disch:=fail"e") only[pLen_sn,ev_iStr,pLeS_s,signs_len,EVl])
def Qbb(h:Wd s):QW [.str s]=some (.bl true):=by
 have h1:=h.l1;have h2:=h.l2;delta QW;walk_at "ev";rw[pIn_no h];walk_at "ev";rw[a8 h1];walk_at "ev";rw[a8 h2];walk_at "ev";rw[itX_low h.low];walk_at "ev";delta Xs;rw[Ql (λc=>PV.str ⟨#[c]⟩) (λ_=>PV.bl true) _ λc hc=>⟨_,rfl,by
  obtain⟨f,j⟩:=h.low c hc;walk_at "ev";rw[sLe_a f];walk_at "ev";rw[sLe_z j]⟩]
 rw[show(s.cps.toList.map λ_=>PV.bl true)=(s.cps.toList.map λ_=>true).map PV.bl by rw[aH];rfl];walk_at "ev";rw[QdU];rw[show(s.cps.toList.map λ_=>true).all id=true by simp];rfl
theorem Zw:ar "guess"=true:=by decide+kernel
def un_ok:ar "unless"=true:=by decide+kernel
def if_ok:ar "if"=true:=by decide+kernel
def wd_ne(h:Wd s)(hr:r∈no3):(s==r)=false:=by
 rw[aW];rintro rfl;exact h.no hr
def QhK(f:Wd G)(l:Wd B):QC [.lst [.str "guess",.str G,.str "unless",.str B]]=some (.bl true):=by
 delta QC;walk_at "ev";rw[show(!0+1+1+1+1==4)=false from rfl];walk_at "ev";rw[Qno Zw Zw,show(("guess":Str)=="guess")=true by simp];walk_at "ev";rw[Qno un_ok un_ok,show(("unless":Str)=="unless")=true by simp];walk_at "ev";rw[Qbb f];walk_at "ev";rw[Qbb l];walk_at "ev"
def QdI(f:Wd H){ps:List Str}(hl:ps.length<=1000):QC [.lst (.str H::ps.map .str)]=some (.bl false):=by
 delta QC;walk_at "ev";cases hc:(!(ps.length+1==4)) with
 |true=>walk_at "ev"
 |false =>
  walk_at "ev";rw[Qno (YZ f.low) Zw,wd_ne f (by decide+kernel)];walk_at "ev"
def QjA(f:Wd H):QN [.lst [.str H]]=some (.bl true):=by
 delta QN;walk_at "ev";rw[show(0+1==1)=true from rfl];walk_at "ev";rw[Qbb f];walk_at "ev"
def cut_01{α:Type} x y (l:List α):cutP (x::y::l) none (some ((1:Nat)))=[x]:=by
 rfl
def cut_2{α:Type} x y (l:List α):cutP (x::y::l) (some ((2:Nat))) none=l:=by
 rw[Xz];rfl
def QhH(B:Wd H){body:List Str}(D:∀s∈body,Wd s)(h0:0<body.length)(hl:body.length<=1000):QN [.lst (.str H::.str "if"::body.map .str)]=some (.bl true):=by
 delta QN;walk_at "ev";rw[show(body.length+1+1==1)=false by rw[aW];lia];walk_at "ev";rw[show(body.length+1+1==2)=false by rw[aW];lia];walk_at "ev";rw[Qno if_ok if_ok,show(("if":Str)=="if")=true by simp];walk_at "ev";rw[cut_01,cut_2,pCat_l (by simp;lia),show [PV.str H]++body.map PV.str=(H::body).map PV.str from rfl];walk_at "ev";rw[show PV.str H::body.map PV.str=(H::body).map PV.str from rfl];have l:∀s∈H::body,Wd s:=λs f=>by
  rcases ap.mp f with rfl | z
  .exact B
  .exact D s z
 generalize H::body=ws at *;walk_at "ev";rw[Ql PV.str (λ_=>PV.bl true) _ λs f=>⟨_,rfl,by
  walk_at "ev";rw[Qbb (l s f)]⟩]
 rw[show(ws.map λ_=>PV.bl true)=(ws.map λ_=>true).map PV.bl by rw[aH];rfl];walk_at "ev";rw[QdU,show(ws.map λ_=>true).all id=true by simp];rfl
def mtK_s(g:PV->List PV->Option α) q z:mtK "str" g q (.str z)=q.bind (g (.str z)):=rfl
def QaC(h:∀s∈w::ws,32∉s.cps.toList)(hl:(a5 sp (w::ws)).length<=9000):YJ (.str (a5 sp (w::ws))) [.str " "]=some ((w::ws).map .str):=by
 show(if ((" ").length==0)=false/\(a5 sp (w::ws)).length+2<=LIM then some ((cC (a5 sp (w::ws)) " ").map PV.str) else none)=_;rw[au ⟨rfl,Zh (by lia)⟩,show(" ")=sp from rfl,Qja w ws h]
def Qki:∀s∈no3,32∉s.cps.toList:=by decide+kernel
def EVs:=ae EVl (ae @pLen_sn @mtK_s)
local macro_rules|`(tactic| walk_at "ev")=>`(tactic| try simp (disch:=fail"e") only[ev_iStr,pLeS_s,signs_len,EVs])
def Qgk(f:Wd G)(l:Wd B) r:QR [.str (a5 sp ["guess",G,"unless",B]),pN r]=some (.tup [.str "guess",.str G,.str B]):=by
 have h1:=f.l2;have h2:=l.l2;delta QR d_read_row;walk_at "ev";rw[QaC (λs j=>by
  simp at j;rcases j with rfl | rfl | rfl | rfl
  .exact Qki _ (by decide+kernel)
  .exact QeX f.low
  .exact Qki _ (by decide+kernel)
  .exact QeX l.low) (by
  rw[Qy];have e1:("guess":Str).length=5:=by decide+kernel
  have e2:("unless":Str).length=6:=by decide+kernel
  have e3:sp.length=1:=rfl;simp;lia)]
 walk_at "ev";rw[QhK f l];walk_at "ev"
theorem QkR:∀{l:List Str},l.Nodup->once l=l
 |[],_=>rfl
 |x::l,h=>by
  obtain⟨h1,h2⟩:=bO.mp h;unfold once;rw[QkR h2];congr 1;rw[List.filter_eq_self];intro y f;have:y≠x:=λe=>h1 (e▸f);simpa using this
def Qmc{body:List Str}(h:body.Nodup)(hl:body.length<1000):Qca [.tup (body.map .str)]=some (pN body.length):=by
 show(match strs? (body.map PV.str) with
  |some ss=>if ss.length<1000 then some (PV.int (once ss).length) else none
  |none=>none)=_
 rw[L2.PM.strs?_map];show(if body.length<1000 then some (PV.int (once body).length) else none)=_;rw[au hl,QkR h];rfl
def cut2_p{xs:List PV}:cutP xs (some ((2:Nat))) none=xs.drop 2:=by rw[Xz]
def QcU{body:List Str} r (f:YJ (.str line) [.str " "]=some parts) (l:QC [.lst parts]=some (.bl false)) (hr:QN [.lst parts]=some (.bl true))
  (hd:parts.drop 2=body.map .str) (B:parts[0]?=some (.str H)) (D:body.Nodup) (I:body.length<=6) (hf:parts.all flat=true):QR [.str line,pN r]=some (.tup [.str "rule",.str H,.tup (body.map .str)]):=by
 delta QR d_read_row;walk_at "ev";rw[f];walk_at "ev";rw[hf];walk_at "ev";rw[l];walk_at "ev";rw[hr];walk_at "ev";rw[cut2_p,hd];walk_at "ev";rw[aX (show ¬6<body.length by lia)];walk_at "ev";rw[Qmc D (by lia)];walk_at "ev";rw[aX (b4 _)];walk_at "ev";rw[B];walk_at "ev"
def QjB{H:Str}(f:Wd H) r:QR [.str H,pN r]=some (.tup [.str "rule",.str H,.tup []]):=by
 have h1:=f.l2;have j :=by
  have:=QaC (λs l=>by rw[al.mp l];exact QeX f.low) (by rw[QaQ];lia);exact this
 exact QcU r j (QdI f (by simp)) (QjA f) rfl rfl .nil (by simp) rfl
def QhI{H:Str}(f:Wd H){body:List Str}(l:∀s∈body,Wd s)(h0:0<body.length)(B:body.Nodup)(D:body.length<=6) r :
  QR [.str (a5 sp (H::"if"::body)),pN r]=some (.tup [.str "rule",.str H,.tup (body.map .str)]):=by
 have E:=QaC (ws := "if"::body) (λs j=>by
  rcases ap.mp j with rfl | z
  .exact QeX f.low
  .rcases ap.mp z with rfl | z
   .exact Qki _ (by decide+kernel)
   .exact QeX (l s z).low) (by
  rw[Qy];have e1:("if":Str).length=2:=by decide+kernel
  have e3:sp.length=1:=rfl;have I:=f.l2;have J:=Xw body 12 λs j=>(l s j).l2;simp only[ba,jZ,aG, e3];lia)
 exact QcU r E (QdI f (by simp;lia)) (QhH f l h0 (by lia)) rfl rfl B D (by simp[flat])
def Qek(h1:i<26):pIx (.str "abcdefghijklmnopqrstuvwxyz") (pN i)=some (.str ⟨#[97+i]⟩):=by
 have key:∀i:_root_.Fin 26,atI ("abcdefghijklmnopqrstuvwxyz":Str).cps.toList (i)=some (97+(i:Nat)):=by decide+kernel
 have:=key ⟨i,h1⟩;show(if "abcdefghijklmnopqrstuvwxyz".length<=LIM then (atI ("abcdefghijklmnopqrstuvwxyz":Str).cps.toList i).map (λc=>PV.str ⟨#[c]⟩) else none)=_;rw[au (Zh (by decide+kernel)),this];rfl
def Qdj(I:Nat->PEnv->Prop) n f (h0:I 0 f)
  (step:∀j f,j<n->I j f->∃γ1 γ2,g (pN j) f=some γ1/\b γ1=some (.nx γ2)/\I (j+1) γ2):∃l,forL g b (encN (ao n)) f=some (.nx l)/\I n l:=by
 obtain⟨l,e,h⟩:=ZL pN (λpre f=>I pre.length f) (ao n) (ao n) [] f rfl h0 (λpre x post f B E=>by
  have hl:=congrArg ee B;simp at hl;have D:(ao n)[pre.length]?=some x:=by rw[<-B];simp
  rw[fU (by lia)]at D;cases D;obtain⟨γ1,γ2,h1,h2,H⟩:=step pre.length f (by lia) E;exact⟨γ1,γ2,h1,h2,by simpa using H⟩)
 rw[am]at h;exact⟨l,e,h⟩
def Qen c:(⟨#[c]⟩:Str).length=1:=rfl
def low1(h:i<26):Low ⟨#[97+i]⟩:=λc hc=>by
 grind
def Qmm:Low "":=λc hc=>by
 cases hc
local macro_rules|`(tactic| walk_at "ev")=>`(tactic| try simp (disch:=fail"e") only[EVs])
def QgK f {size:Nat} (I:size<=12):∃s ,QI [pN f,pN size]=some (.str s)/\s.length=size/\Low s:=by
 delta QI;walk_at "ev";obtain⟨B,e,number,s,s4,rfl,h1,h2⟩:=Qdj (g:=gSet 4) (b:=Xq) (λj l=>∃(number:Nat)(s:Str)(s4:mQ),l=[.fz (pN number),.fz (pN size),.fz (.str "abcdefghijklmnopqrstuvwxyz"),.fz (.str s),s4]/\s.length=j/\Low s)
  size [.fz (pN f),.fz (pN size),.fz (.str "abcdefghijklmnopqrstuvwxyz"),.fz (.str ""),.un] ⟨f,"",.un,rfl,rfl,Qmm⟩ (by
   rintro j l hj ⟨number,s,s4,rfl,h1,h2⟩;have hm:(number*69621+1)%2147483647/17%26<26:=bA _ (by decide);refine⟨_,_,rfl,?_,(number*69621+1)%2147483647,s++⟨#[97+(number*69621+1)%2147483647/17%26]⟩,.fz (pN j),rfl,by rw[Zb,Qen];lia,QgD h2 (low1 hm)⟩;delta Xq;generalize D:(number*69621+1)%2147483647/17%26=i at *;walk_at "ev";rw[D,Qek hm];have:=Qen (97+i);walk_at "ev")
 rw[e];walk_at "ev";exact⟨s,rfl,h1,h2⟩
def idx_lo u n:bD none u 1 n=bD (some ((0:Nat))) u 1 n:=by
 delta bD;grind
def idx_hi l n:bD l none 1 n=bD l (some (n)) 1 n:=by
 delta bD;grind
def Qef x {a b:Nat} (f:a<=b) (B:b<=x.length) l u (e:bD l u 1 x.length=bD (some a) (some b) 1 x.length) :
  (cg x l u).cps.toList=(x.cps.toList.drop a).take (b-a):=by
 have E:x.cps.toList.length=x.length:=by simp[cw]
 have j:=StrLaws.sliced_plain x f B;have D:=StrLaws.strSliceIndices_plain f B;delta cg;rw[e];split
 .rename_i h;rw[D]at h;simp at h;have h2:a=0:=by lia
  subst h2;rw[gv,c7 (by lia)]
 .exact j
def nl:Str := "\n"
def nl_is:nl=⟨#[10]⟩:=by decide+kernel
open Builtin.Str StrLaws in
def split_nl(x:Str):cC x nl=(splL 10 x.cps.toList).map λl=>(⟨l.toArray⟩:Str):=by
 have j:x.cps.toList.length=x.length:=by simp[cw]
 have ho:occurrences x nl 0 x.length (x.length+1)=posL 10 x.cps.toList 0:=by
  rw[occ_eq];have:=QdV x 10 (x.length+1) 0 #[] 0 (by omega) (by simp) (aB _);rw[<-nl_is]at this;simpa using this
 obtain⟨h,t,e1,e2⟩:=QaV x 10 x.cps.toList.length 0 0 (by omega) (aB _);rw[gv]at e1 e2;have main:partsFrom x 1 0 (posL 10 x.cps.toList 0)=(splL 10 x.cps.toList).map λl=>(⟨l.toArray⟩:Str):=by
  rw[e2,e1];simp
 delta cC;rw[ho];by_cases h0:posL 10 x.cps.toList 0=[]
 .rw[h0]at main;have one:[x]=(splL 10 x.cps.toList).map λl=>(⟨l.toArray⟩:Str):=by
   rw[<-main];show [x]=[strSub x 0 x.length];rw[sub_whole]
  rw[h0];split
  .exact one
  .rw[au (show([]:List Nat).isEmpty=true from rfl)];exact one
 .have f:¬(decide (x.length<nl.length)||decide (cu x<cu nl))=true:=by
   have k1:cu nl=1:=by decide+kernel
   have k2:1<=cu x:=by delta cu;split;omega;split<;>omega
   have k3:nl.length=1:=rfl;have B:0<x.cps.toList.length:=by
    cases L:x.cps.toList with
    |nil=>rw[L]at h0;exact absurd rfl h0
    |cons _ _=>simp
   rw[k1,k3];simp;omega
  rw[aK f,aK (by simpa using h0),partsBetween_eq];exact main
def Qhj:∀w ws,(∀s∈w::ws,10∉s.cps.toList)->cC (a5 nl (w::ws)) nl=w::ws:=by
 have key:∀w ws,(∀s∈w::ws,10∉s.cps.toList)->splL 10 (a5 nl (w::ws)).cps.toList=(w::ws).map λs=>s.cps.toList:=by
  intro w ws;induction ws generalizing w with
  |nil =>
   intro h;rw[QaQ,QcD (h w (by simp))];rfl
  |cons v ws f =>
   intro h;rw[Zs];have e:(w++nl++a5 nl (v::ws)).cps.toList=w.cps.toList++10::(a5 nl (v::ws)).cps.toList:=by
    show(w.cps++nl.cps++(a5 nl (v::ws)).cps).toList=_;rw[show nl.cps = #[10] by rw[nl_is]];simp
   rw[e,Qee (h w (by simp)),f v λs j=>h s (ax _ j)];rfl
 intro w ws h;rw[split_nl,key w ws h,aH];exact List.map_id' _
inductive Rw where
 |g (a b:Str)
 |r (h:Str) (b:List Str)
noncomputable def Rw.v:Rw->PV
 |.g a b=>.tup [.str "guess",.str a,.str b]
 |.r h b=>.tup [.str "rule",.str h,.tup (b.map .str)]
def Rw.line:Rw->Str
 |.g a b=>a5 sp ["guess",a,"unless",b]
 |.r h b=>if b=[] then h else a5 sp (h::"if"::b)
def Rw.Ok:Rw->Prop
 |.g a b=>Wd a/\Wd b
 |.r h b=>Wd h/\(∀s∈b,Wd s)/\b.Nodup/\b.length<=6
theorem g_sp:("guess ") = "guess"++sp:=by decide+kernel
theorem u_sp:(" unless ")=sp++"unless"++sp:=by decide+kernel
def i_sp:(" if ")=sp++"if"++sp:=by decide+kernel
theorem Qbh:ar "rule"=true:=by decide+kernel
def Qho:(("rule":Str)=="guess")=false:=by decide+kernel
theorem gr_ne:(("guess":Str)=="rule")=false:=by decide+kernel
def pJoinT_s(h:(ys.map cw).sum+ys.length*x.length<=100000):QeS (.str x) [.tup (ys.map .str)]=some (.str (a5 x ys)):=by
 show(match strs? (ys.map PV.str) with
  |some ys=>if (ys.map (λz:Str=>z.length)).sum+ys.length*x.length<=LIM then some (PV.str (a5 x ys)) else none
  |none=>none)=_
 rw[L2.PM.strs?_map];exact au (Zh h)
def pJoin_s(h:(ys.map cw).sum+ys.length*x.length<=100000):Qbi (.str x) [.lst (ys.map .str)]=some (.str (a5 x ys)):=by
 show(match strs? (ys.map PV.str) with
  |some ys=>if (ys.map (λz:Str=>z.length)).sum+ys.length*x.length<=LIM then some (PV.str (a5 x ys)) else none
  |none=>none)=_
 rw[L2.PM.strs?_map];exact au (Zh h)
def XA(a b:Str):(a++b).length=a.length+b.length:=Zb a b
def line_g a b : "guess "++a++" unless "++b=(Rw.g a b).line:=by
 show _=a5 sp ["guess",a,"unless",b];grind[Zs,QaQ,g_sp,u_sp,QfU]
def line_r h y ys:h++" if "++a5 " " (y::ys)=(Rw.r h (y::ys)).line:=by
 show _=if y::ys=[] then h else a5 sp (h::"if"::y::ys);rw[aK (by simp),Zs,Zs,i_sp,show(" ")=sp from rfl];simp only[QfU]
def e_line{x:Rw}(h:x.Ok):QP [x.v]=some (.str x.line):=by
 cases x with
 |g G B =>
  obtain⟨f,l⟩:=h;have h1:=f.l2;have h2:=l.l2;have e1:("guess ":Str).length=6:=by decide+kernel
  have e2:(" unless ":Str).length=8:=by decide+kernel
  delta QP Rw.v;walk_at "ev";rw[Xt Zw Zw,show(("guess":Str)=="guess")=true by simp];walk_at "ev";rw[pAdd_s (by rw[XA];lia)];walk_at "ev";rw[pAdd_s (by rw[XA,XA];lia)];walk_at "ev";rw[line_g]
 |r H body =>
  obtain⟨D,E,J,L⟩:=h;have h1:=D.l2;have e2:(" if ":Str).length=4:=by decide+kernel
  have e3:(" ":Str).length=1:=by decide+kernel
  have M:=Xw body 12 λs I=>(E s I).l2;delta QP Rw.v;walk_at "ev";rw[Xt Qbh Zw,Qho];walk_at "ev";cases body with
  |nil =>
   walk_at "ev";rfl
  |cons y ys =>
   rw[show(((y::ys).length)==0)=false from rfl];walk_at "ev";have j:=pJoinT_s (ys:=y::ys) (by rw[e3];lia);rw[ba]at j;rw[j];walk_at "ev";rw[pAdd_s (by
    rw[XA,Qy,e3];lia)]
   walk_at "ev";rw[line_r]
def e_read{x:Rw}(h:x.Ok) r:QR [.str x.line,pN r]=some x.v:=by
 cases x with
 |g a b=>exact Qgk h.1 h.2 r
 |r H body =>
  obtain⟨f,j,l,B⟩:=h;cases body with
  |nil=>exact QjB f r
  |cons y ys=>exact QhI f j (by simp) l B r
theorem XR f:∀ws,c∈(a5 f ws).cps.toList->c∈f.cps.toList\/∃w∈ws,c∈w.cps.toList
 |[],h=>by
  cases h
 |[w],h=>by
  exact .inr ⟨w,by simp,h⟩
 |w::v::ws,h=>by
  rw[Zs]at h;have h:c∈(w.cps++f.cps++(a5 f (v::ws)).cps).toList:=h;rw[fW,fW,aP,aP]at h;rcases h with(h | h) | h
  .exact .inr ⟨w,by simp,h⟩
  .exact .inl h
  .rcases XR f (v::ws) h with h|⟨x,j,h⟩
   .exact .inl h
   .exact .inr ⟨x,ax _ j,h⟩
def Qkj:∀s∈no3,10∉s.cps.toList:=by decide+kernel
def QeY(h:Low s):10∉s.cps.toList:=λz=>by
 have:=h 10 z;lia
def sp_nl:10∉sp.cps.toList:=by decide+kernel
def line_nl{x:Rw}(h:x.Ok):10∉x.line.cps.toList:=by
 cases x with
 |g a b =>
  intro z;rcases XR sp _ z with z|⟨w,hw,f⟩
  .exact sp_nl z
  .simp at hw;rcases hw with e | e | e | e
   .rw[e]at f;exact Qkj _ (by decide+kernel) f
   .rw[e]at f;exact QeY h.1.low f
   .rw[e]at f;exact Qkj _ (by decide+kernel) f
   .rw[e]at f;exact QeY h.2.low f
 |r H body =>
  obtain⟨j,l,_,_⟩:=h;intro z;have z:10∈(if body=[] then H else a5 sp (H::"if"::body)).cps.toList:=z;by_cases c:body=[]
  .rw[au c]at z;exact QeY j.low z
  .rw[aK c]at z;rcases XR sp _ z with z|⟨w,hw,f⟩
   .exact sp_nl z
   .rcases ap.mp hw with e | hw
    .rw[e]at f;exact QeY j.low f
    .rcases ap.mp hw with e | hw
     .rw[e]at f;exact Qkj _ (by decide+kernel) f
     .exact QeY (l w hw).low f
def QaK{x:Rw}(h:x.Ok):1<=x.line.length/\x.line.length<=110:=by
 have e3:sp.length=1:=rfl;cases x with
 |g a b =>
  have h1:=h.1.l2;have h2:=h.2.l2;have e1:("guess":Str).length=5:=by decide+kernel
  have e2:("unless":Str).length=6:=by decide+kernel
  delta Rw.line;rw[Qy];simp;lia
 |r H body =>
  obtain⟨f,j,_,B⟩:=h;have h1:=f.l1;have h2:=f.l2;show 1<=(if body=[] then H else a5 sp (H::"if"::body)).length/\(if body=[] then H else a5 sp (H::"if"::body)).length<=110;by_cases c:body=[]
  .rw[au c];lia
  .rw[aK c,Qy];have e1:("if":Str).length=2:=by decide+kernel
   have D:=Xw body 12 λs l=>(j s l).l2;simp only[ba,jZ,aG, e3];lia
theorem Qcj{α:Type}[DecidableEq α]:∀{l m:List α},l.Nodup->(∀x∈l,x∈m)->l.length<=m.length
 |[],_,_,_=>by simp
 |x::l,m,B,h=>by
  obtain⟨h1,h2⟩:=bO.mp B;have f:=h x (by simp);have:=Qcj h2 λy j=>(kU (λe:y=x=>h1 (e▸j))).mpr (h y (ax _ j));rw[j3 f]at this;have :=List.length_pos_of_mem f;simp;lia
theorem Qdw{α:Type}[DecidableEq α]:∀{l m:List α},l.Nodup->m.Nodup->(∀x,x∈l↔x∈m)->l.Perm m
 |[],m,_,_,h=>by
  cases m with
  |nil=>exact .refl _
  |cons y m=>exact absurd ((h y).mpr (by simp)) (by simp)
 |x::l,m,B,hm,h=>by
  obtain⟨h1,h2⟩:=bO.mp B;have D :=(h x).mp (by simp);refine .trans (.cons x (Qdw h2 (hm.erase x) λy=>?_)) (ix D).symm;rw[hm.mem_erase_iff];constructor
  .intro f;exact⟨λe=>h1 (e▸f),(h y).mp (ax _ f)⟩
  .rintro⟨j,f⟩;rcases ap.mp ((h y).mpr f) with e | z
   .exact absurd e j
   .exact z
theorem QbP[BEq α][LawfulBEq α]:∀{xs:List α},y∈once xs↔y∈xs
 |[]=>by simp[once]
 |x::xs=>by
  unfold once;rw[ap,ap,bc,QbP];by_cases h:y=x
  .simp[h]
  .simp[h]
theorem XO[BEq α][LawfulBEq α]:∀xs:List α,(once xs).Nodup
 |[]=>by simp[once]
 |x::xs=>by
  unfold once;rw[bO];refine⟨by simp[bc],fR _ (XO xs)⟩
noncomputable def Rw.isG:Rw->Bool
 |.g _ _=>true
 |_=>false
def Rw.gp:Rw->Option (Str×Str)
 |.g a b=>some (a,b)
 |_=>none
def Rw.rp:Rw->Option (Str×List Str)
 |.r h b=>some (h,b)
 |_=>none
def Rw.ws:Rw->List Str
 |.g a b=>[a,b]
 |.r h b=>h::b
def gRow(p:Str×Str):Rw := .g p.1 p.2
def rRow(p:Str×List Str):Rw := .r p.1 p.2
theorem Qny:∀(R:List Rw),R.filter Rw.isG=(R.filterMap Rw.gp).map gRow
 |[]=>rfl
 |.g a b::R=>by
  rw[d7 (by rfl),cL (by rfl),ba,Qny R];rfl
 |.r h b::R=>by
  rw[dF (by simp[Rw.isG]),dw (by rfl),Qny R]
theorem fil_r:∀(R:List Rw),(R.filter λx => !x.isG)=(R.filterMap Rw.rp).map rRow
 |[]=>rfl
 |.r a b::R=>by
  rw[d7 (by rfl),cL (by rfl),ba,fil_r R];rfl
 |.g h b::R=>by
  rw[dF (by simp[Rw.isG]),dw (by rfl),fil_r R]
def v_kind(x:Rw):∃a b,x.v = .tup [.str (if x.isG=true then "guess" else "rule"),a,b]:=by
 cases x<;>exact⟨_,_,rfl⟩
def Qet{R:List Rw}(hl:R.length<=1000):QL [.lst (R.map Rw.v),.str "guess"]=some (.lst ((R.filterMap Rw.gp).map λp=>(gRow p).v)):=by
 delta QL;walk_at "ev";rw[QaP Rw.v Rw.isG Rw.v R λx f=>by
  obtain⟨a,b,e⟩:=v_kind x;refine⟨_,rfl,?_,λ_=>?_⟩
  .rw[e];walk_at "ev";cases j:x.isG
   .simp;rw[Xt Qbh Zw,Qho];rfl
   .simp;rw[Xt Zw Zw];simp[isB_bl]
  .walk_at "ev"]
 rw[Qny,aH];rfl
def QiL{R:List Rw}(hl:R.length<=1000):QL [.lst (R.map Rw.v),.str "rule"]=some (.lst ((R.filterMap Rw.rp).map λp=>(rRow p).v)):=by
 delta QL;walk_at "ev";rw[QaP Rw.v (λx => !x.isG) Rw.v R λx f=>by
  obtain⟨a,b,e⟩:=v_kind x;refine⟨_,rfl,?_,λ_=>?_⟩
  .rw[e];walk_at "ev";grind[Xt,Qbh,isB_bl,Zw,gr_ne]
  .walk_at "ev"]
 rw[fil_r,aH];rfl
def QmK(h:m f=some (.tup ys)):sExM ms i m f=extK ms i f (.tup ys) f[i]?:=by
 show((m f).bind λr=>match r with
  |.tup _=>sExt ms i m f
  |_=>sExl ms i m f)=_
 rw[h];show(m f).bind (λr=>extK ms i f r f[i]?)=_;rw[h];rfl
def QmL(h:m f=some (.lst ys)):sExM ms i m f=exlK ms i f (.lst ys) f[i]?:=by
 show((m f).bind λr=>match r with
  |.tup _=>sExt ms i m f
  |_=>sExl ms i m f)=_
 rw[h];show(m f).bind (λr=>exlK ms i f r f[i]?)=_;rw[h];rfl
def extK_ok(h:xs.length+ys.length<=100000)(h2:(!ms.contains i)=true):extK ms i f (.tup ys) (some (.ow xs))=some (.nx ((Qx (flat (.tup ys)) ms f).set i (.ow (xs++ys)))):=au ⟨Qkn h,h2⟩
def exlK_ok(h:xs.length+ys.length<=100000)(h2:(!ms.contains i)=true):exlK ms i f (.lst ys) (some (.ow xs))=some (.nx ((Qx (flat (.lst ys)) ms f).set i (.ow (xs++ys)))):=au ⟨Qkn h,h2⟩
def Xo{R:List Rw}(h:∀x∈R,x.ws.length<=7):(R.flatMap Rw.ws).length<=R.length*7:=by
 induction R with
 |nil=>simp
 |cons x R f =>
  grind
def Qnr{x:Rw}(h:x.Ok):x.ws.length<=7:=by
 cases x with
 |g a b=>show 2<=7;lia
 |r h b =>
  obtain⟨_,_,_,f⟩:=h;show b.length+1<=7;lia
def Qlq{R:List Rw}(ok:∀x∈R,x.Ok)(hl:R.length<=100):YX [.lst (R.map Rw.v)]=some (.lst ((R.flatMap Rw.ws).map .str)):=by
 delta YX;walk_at "ev";generalize I:PV.lst (R.map Rw.v)=P;obtain⟨l,B,s2,rfl⟩:=ZL (g:=gSet 2) (b:=QaE) Rw.v
   (λpre j=>∃s2,j=[.fz P,.ow ((pre.flatMap Rw.ws).map .str),s2])
   R R [] [.fz P,.ow [],.un] rfl ⟨.un,rfl⟩ (by
    rintro pre x post j f ⟨s2,rfl⟩;have D :=by
     have:=congrArg ee f;simp at this;omega
    have hw:=Xo (R:=pre) λy E=>Qnr (ok y (by rw[<-f];simp[E]));have H:=ok x (by rw[<-f];simp);refine⟨_,_,rfl,?_,.fz x.v,rfl⟩;rw[lc,List.flatMap_cons,List.flatMap_nil,bu];generalize pre.flatMap Rw.ws=W at *;delta QaE;cases x with
    |g a b =>
     delta Rw.v Rw.ws;walk_at "ev";rw[Zt (by rw[ai];lia) rfl];walk_at "ev";rw[QmL (ys:=[.str b]) (by
      walk_at "ev";rw[Xt Zw Zw,show(("guess":Str)=="guess")=true by simp];walk_at "ev")]
     walk_at "ev";rw[exlK_ok (by simp;lia) rfl];walk_at "ev";simp
    |r h b =>
     obtain⟨_,_,_,J⟩:=H;delta Rw.v Rw.ws;walk_at "ev";rw[Zt (by rw[ai];lia) rfl];walk_at "ev";rw[QmK (ys:=b.map .str) (by
      walk_at "ev";rw[Xt Qbh Zw,Qho];walk_at "ev")]
     walk_at "ev";rw[extK_ok (by simp;lia) rfl];walk_at "ev";simp)
 rw[B];walk_at "ev"
def Qhv(h:ss.length<1000):QaX [.lst (ss.map .str)]=some (pN (once ss).length):=by
 show(match strs? (ss.map PV.str) with
  |some ns=>if ns.length<1000 then some (PV.int (once ns).length) else none
  |none=>none)=_
 rw[L2.PM.strs?_map];show(if ss.length<1000 then some (PV.int (once ss).length) else none)=_;rw[au h];rfl
def e_bounds{R:List Rw}{M:List Str}(ok:∀x∈R,x.Ok)(hl:R.length<=100)(h1:(R.filterMap Rw.gp).length<=8)(h2:(R.filterMap Rw.rp).length<=40)(f:M.length<=30)(l:∀x∈R,∀w∈x.ws,w∈M) :
  Zy [.lst (R.map Rw.v)]=some (.bl false):=by
 have hw:=Xo λy j=>Qnr (ok y j);have ho :=aS (Qcj (XO _) λw hw=>by
  obtain⟨x,B,hw⟩:=fI.mp (QbP.mp hw);exact l x B w hw) f
 delta Zy;walk_at "ev";rw[Qet (by lia)];walk_at "ev";rw[aX (show ¬8<(R.filterMap Rw.gp).length by lia)];walk_at "ev";rw[QiL (by lia)];walk_at "ev";rw[aX (show ¬40<(R.filterMap Rw.rp).length by lia)];walk_at "ev";rw[Qlq ok hl];walk_at "ev";rw[Qhv (by lia)];walk_at "ev";rw[aX (show ¬30<(once (R.flatMap Rw.ws)).length by lia)]
def Rw.key:Rw->PV
 |.g a _=>.tup [.str "guess",.str a]
 |.r h b=>.tup [.str "rule",.str h,.tup ((QA b).map .str)]
def pSortA_t(h:ss.length<64):QgT [.tup (ss.map .str)]=some ((QA ss).map .str):=by
 show(match strs? (ss.map PV.str) with
  |some ss=>if ss.length<64 then some ((QA ss).map PV.str) else none
  |none=>none)=_
 rw[L2.PM.strs?_map];exact au h
def e_once{x:Rw}(h:x.Ok):ZP [x.v]=some x.key:=by
 cases x with
 |g a b =>
  delta ZP;delta Rw.v;walk_at "ev";rw[Xt Zw Zw,show(("guess":Str)=="guess")=true by simp];walk_at "ev";rfl
 |r H b =>
  obtain⟨_,_,_,f⟩:=h;delta ZP;delta Rw.v;walk_at "ev";rw[Xt Qbh Zw,Qho];walk_at "ev";rw[pSortA_t (by lia)];walk_at "ev";rfl
def Rw.sim:Rw->Rw->Prop
 |.g a _,.g c _=>a=c
 |.r h b,.r k c=>h=k/\QA b=QA c
 |_,_=>False
theorem Qft:∀{a b:List Str},peqL (a.map PV.str) (b.map .str)=true->a=b
 |[],[],_=>rfl
 |[],_::_,h=>by cases h
 |_::_,[],h=>by cases h
 |x::a,y::b,h=>by
  have h:((x==y)&&peqL (a.map PV.str) (b.map .str))=true:=h;rw[aN]at h;rw[kK h.1,Qft h.2]
def peq_key{x y:Rw}(h:peq x.key y.key=true):x.sim y:=by
 cases x with
 | g a b=>cases y with
  |g c d =>
   have h:(("guess"=="guess")&&((a==c)&&true))=true:=h;simp at h;exact h
  |r k c =>
   have h:(("guess"=="rule")&&((a==k)&&false))=true:=h;simp at h
 | r f b=>cases y with
  |g c d =>
   have h:(("rule"=="guess")&&((f==c)&&false))=true:=h;simp at h
  |r k c =>
   have h:(("rule"=="rule")&&((f==k)&&(peqL ((QA b).map .str) ((QA c).map .str)&&true)))=true:=h;simp at h;exact⟨h.1,Qft h.2⟩
theorem QaN:∀{ss:List Str},(∀s∈ss,ar s=true)->depL (ss.map PV.str)=0/\okSL (ss.map PV.str)=true
 |[],_=>by simp[depL,okSL]
 |s::ss,h=>by
  have f:=QaN λx j=>h x (ax _ j);have h1:=h s (by simp);simp[depL,okSL,dep,okS,f.1,f.2,h1]
def key_ok{x:Rw}(h:x.Ok):okv x.key=true:=by
 cases x with
 |g a b=>simp[Rw.key,okv,dep,depL,okS,okSL,YZ h.1.low,Zw]
 |r H b =>
  obtain⟨f,j,_,_⟩:=h;have:=QaN λs l=>YZ (j s ((Qk b).mem_iff.mp l)).low;simp[Rw.key,okv,dep,depL,okS,okSL,YZ f.low,Qbh,this.1,this.2]
structure Gd (R:List Rw) (M:List Str):Prop where
 ok:∀x∈R,x.Ok
 pw:R.Pairwise λx y=>¬x.sim y
 ng:(R.filterMap Rw.gp).length<=2
 nr:(R.filterMap Rw.rp).length<=40
 nM:M.length<=30
 ws:∀x∈R,∀w∈x.ws,w∈M
 hd:∀p∈R.filterMap Rw.rp,p.1∉(R.filterMap Rw.gp).map (·.1)
theorem QgE:∀R:List Rw,R.length=(R.filterMap Rw.gp).length+(R.filterMap Rw.rp).length
 |[]=>rfl
 |.g a b::R=>by
  rw[cL (by rfl),dw (by rfl),aG,aG,QgE R];lia
 |.r a b::R=>by
  rw[dw (by rfl),cL (by rfl),aG,aG,QgE R];lia
def Gd.len(h:Gd R M):R.length<=48:=by
 have:=QgE R;have:=h.ng;have:=h.nr;lia
def pIn_keys{R:List Rw}(l:x.Ok)(B:∀y∈R,y.Ok)(D:∀y∈R,¬y.sim x):pIn x.key (.lst (R.map Rw.key))=some (.bl false):=by
 have h1:(R.map Rw.key).all okv=true:=by
  rw[dM,bf];intro y f;exact key_ok (B y f)
 have h2:((R.map Rw.key).any λy=>peq y x.key)=false:=by
  rw[f9,fw];intro y f e;exact D y f (peq_key e)
 show(if okv x.key=true/\(R.map Rw.key).all okv=true then some (PV.bl ((R.map Rw.key).any λy=>peq y x.key)) else none)=_;rw[au ⟨key_ok l,h1⟩,h2]
def e_rows{R:List Rw}{M:List Str}(G:Gd R M):Xh [.lst (R.map λx=>.str x.line)]=some (.lst (R.map Rw.v)):=by
 have hl:=G.len;delta Xh;walk_at "ev";generalize hP:PV.lst (R.map λx=>PV.str x.line)=P;have I:((R.map λx=>PV.str x.line).zipIdx.map λx=>PV.tup [pN x.2,x.1])=R.zipIdx.map λp=>PV.tup [pN p.2,.str p.1.line]:=by
  rw[ie,aH];rfl
 rw[I];obtain⟨J,L,s2,s3,s4,rfl⟩:=ZL (g:=Xg 2 3) (b:=XU) (λp=>PV.tup [pN p.2,.str p.1.line])
   (λpre E=>∃s2 s3 s4,E=[.fz P,.ow ((pre.map (·.1)).map Rw.v),s2,s3,s4])
   R.zipIdx R.zipIdx [] [.fz P,.ow [],.un,.un,.un] rfl ⟨.un,.un,.un,rfl⟩ (by
    rintro pre x post E l ⟨s2,s3,s4,rfl⟩;have O :=by
     have:=congrArg (List.map (·.1)) l;simpa using this
    obtain⟨x,n⟩:=x;have e1:(pre++[(x,n)]).map (·.1)=pre.map (·.1)++[x]:=by simp
    rw[e1];generalize pre.map (·.1)=Q at *;generalize post.map (·.1)=T at *;subst O;have B:=G.ok x (by simp);have H:∀y∈Q,y.Ok:=λy f=>G.ok y (by simp[f]);have U :=λy f=>(fO.mp G.pw).2.2 y f x (by simp);have Y:Q.length<=48:=by
     rw[aO]at hl;lia
    have hb:Zy [.lst (Q.map Rw.v++[x.v])]=some (.bl false):=by
     have e:Q.map Rw.v++[x.v]=(Q++[x]).map Rw.v:=by simp
     rw[e];have k1:=G.ng;have k2:=G.nr;rw[show Q++x::T=(Q++[x])++T by simp,List.filterMap_append,aO]at k1 k2;refine e_bounds (M:=M) (λy f=>G.ok y ?_) (by simp;lia) (by lia) (by lia) G.nM λy f w hw=>G.ws y ?_ w hw
     .rcases aP.mp f with z | z
      .simp[z]
      .simp[al.mp z]
     .rcases aP.mp f with z | z
      .simp[z]
      .simp[al.mp z]
    have j:flat x.v=false:=by cases x<;>rfl
    have hk:=pIn_keys B H U;have he:=e_once B;have D:=e_read B n;refine⟨_,_,rfl,?_,.fz (pN n),.fz (.str x.line),.fz x.v,rfl⟩;delta XU;walk_at "ev";rw[D];walk_at "ev";rw[j];walk_at "ev";rw[he];walk_at "ev";rw[Ql Rw.v Rw.key Q λy f=>⟨_,rfl,by
     walk_at "ev";rw[e_once (H y f)]⟩]
    walk_at "ev";rw[hk];walk_at "ev";rw[Zt (by rw[ai];lia) (by rw[j];rfl),j];walk_at "ev";rw[hb];walk_at "ev";simp)
 rw[L,iF];walk_at "ev"
abbrev Gp:=Str×Str
abbrev Rp:=Str×List Str
def GN(f:List Gp):List Str:=f.map (·.1)
def wds(f:List Gp)(rs:List Rp):List Str:=(f.flatMap λp=>[p.1,p.2])++rs.flatMap λp=>p.1::p.2
def nm(f:List Gp)(rs:List Rp):List Str:=QA (GN f)++QA ((once (wds f rs)).filter λj=>decide (j∉GN f))
def Qhi(h:a.Perm b):QA a=QA b:=Xd ((Qk a).trans h) (QbU a)
def Qbp:w∈wds f rs↔(∃p∈f,w=p.1\/w=p.2)\/∃p∈rs,w=p.1\/w∈p.2:=by
 delta wds;simp
def QaJ{R:List Rw}:w∈R.flatMap Rw.ws↔w∈wds (R.filterMap Rw.gp) (R.filterMap Rw.rp):=by
 rw[Qbp,fI];constructor
 .rintro⟨x,f,hw⟩;cases x with
  |g a b =>
   have hw:w∈[a,b]:=hw;refine .inl ⟨(a,b),bw.mpr ⟨_,f,rfl⟩,by simpa using hw⟩
  |r h b =>
   have hw:w∈h::b:=hw;exact .inr ⟨(h,b),bw.mpr ⟨_,f,rfl⟩,by simpa using hw⟩
 .rintro(⟨p,j,hw⟩|⟨p,j,hw⟩)
  .obtain⟨x,f,e⟩:=bw.mp j;cases x with
   |g a b =>
    cases e;exact⟨_,f,by show w∈[a,b];simpa using hw⟩
   |r h b=>cases e
  .obtain⟨x,f,e⟩:=bw.mp j;cases x with
   |g a b=>cases e
   |r h b =>
    cases e;exact⟨_,f,by show w∈h::b;simpa using hw⟩
def nm_rows(R:List Rw):QA (GN (R.filterMap Rw.gp))++QA ((once (R.flatMap Rw.ws)).filter λj=>decide (j∉GN (R.filterMap Rw.gp)))=nm (R.filterMap Rw.gp) (R.filterMap Rw.rp):=by
 congr 1;refine Qhi (Qdw ((XO _).filter _) ((XO _).filter _) λx=>?_);rw[bc,bc,QbP,QbP,QaJ]
def Qht{a b:List Str}(h1:a.length<1000)(h2:b.length<1000)(f:(once a).length<64):QaW [.lst (a.map .str)] [.lst (b.map .str)]=some ((QA ((once a).filter λj=>decide (j∉b))).map .str):=by
 show(match strs? (a.map PV.str),strs? (b.map PV.str) with
  |some ns,some ks=>if ns.length<1000/\ks.length<1000/\(once ns).length<64 then some ((QA ((once ns).filter λj=>decide (j∉ks))).map PV.str) else none
  |_,_=>none)=_
 rw[L2.PM.strs?_map,L2.PM.strs?_map];exact au ⟨h1,h2,f⟩
def ev_mSortDiff l B f:QcI l B f=(l f).bind λx=>(B f).bind λy=>QaW x y:=rfl
def GN_ok{R:List Rw}(ok:∀x∈R,x.Ok):∀s∈GN (R.filterMap Rw.gp),ar s=true:=by
 intro s f;obtain⟨p,j,rfl⟩:=aU.mp f;obtain⟨x,l,e⟩:=bw.mp j;cases x with
 |g a b=>cases e;exact YZ (ok _ l).1.low
 |r h b=>cases e
local macro_rules|`(tactic| walk_at "ev")=>`(tactic| try simp (disch:=fail"e") only[ev_mSortDiff,EVs])
def QiM{R:List Rw}(hl:R.length<=1000) f (h:getV f 0=some (.lst (R.map Rw.v))):Qr (iLst (Qc QL (Qa (mVar 0) (Qa (mC (.str "guess")) aNil)))) 1 [] (gSet 0) QH (bin2 pIx (mVar 0) (mN 1)) f=some ((GN (R.filterMap Rw.gp)).map .str):=by
 have l:(R.filterMap Rw.gp).length<=1000:=aS (gJ _ _) hl;walk_at "ev";rw[h];walk_at "ev";rw[Qet hl];walk_at "ev";rw[Ql (λp=>(gRow p).v) (λp=>PV.str p.1) _ λp j=>⟨_,rfl,by
  delta gRow Rw.v;walk_at "ev"⟩]
 delta GN;rw[aH];rfl
def ev_sExE ms m f:sExE ms m f=(m f).map λr=>.nx (Qx (flat r) ms f):=rfl
def e_refuse(G:Gd R M):ZE [.lst (R.map Rw.v)]=some .non:=by
 have hl:=G.len;have E:=QiM (by lia) [.fz (.lst (R.map Rw.v)),.un,.un,.un] rfl;have l:=GN_ok G.ok;delta ZE;rw[runV_1,ev_startG1];simp;rw[ev_sSeq,ev_sSetO,E];walk_at "ev";generalize T:PV.lst (R.map Rw.v)=P;have H:((R.map Rw.v).zipIdx.map λx=>PV.tup [pN x.2,x.1])=R.zipIdx.map λp=>PV.tup [pN p.2,p.1.v]:=by
  rw[ie,aH];rfl
 rw[H];obtain⟨I,J,s2,s3,rfl⟩:=ZL (g:=Xg 2 3) (b:=Yo) (λp=>PV.tup [pN p.2,p.1.v])
   (λpre B=>∃s2 s3,B=[.fz P,.ow ((GN (R.filterMap Rw.gp)).map .str),s2,s3])
   R.zipIdx R.zipIdx [] [.fz P,.ow ((GN (R.filterMap Rw.gp)).map .str),.un,.un] rfl ⟨.un,.un,rfl⟩ (by
    rintro pre x post B j ⟨s2,s3,rfl⟩;have D :=by
     have:x∈R.zipIdx:=by rw[<-j];simp
     have:=List.mem_map_of_mem (f:=(·.1)) this;rw[iF]at this;exact this
    obtain⟨x,n⟩:=x;refine⟨_,_,rfl,?_,.fz (pN n),.fz x.v,rfl⟩;delta Yo;have L:=G.ok x D;cases x with
    |g a b =>
     delta Rw.v;walk_at "ev";rw[Xt Zw Qbh,gr_ne];walk_at "ev"
    |r h b =>
     delta Rw.v;walk_at "ev";rw[Xt Qbh Qbh,show(("rule":Str)=="rule")=true by simp];walk_at "ev";rw[pIn_sl (YZ L.1.low) l];have:(GN (R.filterMap Rw.gp)).any (·==h)=false:=by
      rw[fw];intro y O e;exact G.hd (h,b) (bw.mpr ⟨_,D,rfl⟩) (by rw[<-kK e];exact O)
     rw[this];walk_at "ev")
 rw[J];walk_at "ev"
def e_names{R:List Rw}{M:List Str}(G:Gd R M):Qad [.lst (R.map Rw.v)]=some (.tup ((nm (R.filterMap Rw.gp) (R.filterMap Rw.rp)).map .str)):=by
 have hl:=G.len;have f:=QiM (R:=R) (by lia) [.fz (.lst (R.map Rw.v)),.un] rfl;have E:=G.ng;have l:(GN (R.filterMap Rw.gp)).length<=8:=by delta GN;rw[ai];lia
 have hw:=Xo (R:=R) λy B=>Qnr (G.ok y B);have ho:(once (R.flatMap Rw.ws)).length<=30:=aS (Qcj (XO _) λw hw=>by
  obtain⟨x,D,hw⟩:=fI.mp (QbP.mp hw);exact G.ws x D w hw) G.nM
 have hof:=bM (λj=>decide (j∉GN (R.filterMap Rw.gp))) (once (R.flatMap Rw.ws));delta Qad;rw[runV_1,ev_startG1];simp only[ba,ja,aG,cN,iG,lb,fJ,ii];rw[ev_sSeq,ev_sSetO,f];walk_at "ev";rw[pSort_s (by lia)];walk_at "ev";rw[Qlq G.ok (by lia)];walk_at "ev";rw[Qht (by lia) (by lia) (by lia)];walk_at "ev";rw[pCat_l (by rw[ai,ai,Qfl,Qfl];lia),<-bF,nm_rows];walk_at "ev"
def ordN(G:List Str)(x y:Str):Prop:=(x∈G/\y∉G)\/((x∈G↔y∈G)/\sLe x y=true)
def Qme(h1:ordN G x y)(h2:ordN G y x):x=y:=by
 rcases h1 with⟨a,b⟩|⟨a,b⟩
 .rcases h2 with⟨c,_⟩|⟨c,_⟩
  .exact absurd c b
  .exact absurd (c.mpr a) b
 .rcases h2 with⟨c,d⟩|⟨_,d⟩
  .exact absurd (a.mpr c) d
  .exact Qeg b d
def Qik(h1:∀x∈l1,x∈G)(h2:∀x∈l2,x∉G):(QA l1++QA l2).Pairwise (ordN G):=by
 rw[fO];have l :=λx f=>h1 x ((Qk l1).mem_iff.mp f);have B :=λx f=>h2 x ((Qk l2).mem_iff.mp f);refine⟨?_,?_,λx f y j=>.inl ⟨l x f,B y j⟩⟩
 .refine(QbU l1).imp_of_mem λ{x y} f j e=>.inr ⟨⟨λ_=>l y j,λ_=>l x f⟩,e⟩
 .refine(QbU l2).imp_of_mem λ{x y} f j e=>.inr ⟨⟨λz=>absurd z (B x f),λz=>absurd z (B y j)⟩,e⟩
def nm_ord f rs:(nm f rs).Pairwise (ordN (GN f)):=Qik (λ_ h=>h) λx j=>by
 grind
def idx_le{N G:List Str}(B:N.Pairwise (ordN G))(D:x∈N)(I:y∈N)(h:ordN G x y):N.idxOf x<=N.idxOf y:=by
 apply cE;intro c;have l:=bE.mpr D;have f:=bE.mpr I;have:=gz.mp B (N.idxOf y) (N.idxOf x) f l (by lia);rw[et f,et l]at this;have e:=Qme h this;rw[e]at c;lia
def QeW(h:w∈wds f rs):w∈nm f rs:=by
 grind[nm,Qk,QbP]
def ordB(G b:List Str):List Str:=QA (b.filter λw=>decide (w∈G))++QA (b.filter λw=>decide (w∉G))
def XG G b:(ordB G b).Perm b:=by
 refine((Qk _).append (Qk _)).trans ?_;have h:=List.filter_append_perm (λw=>decide (w∈G)) b;refine .trans (.of_eq ?_) h;congr 1;refine lV λx _=>?_;simp
def Qil G b:(ordB G b).Pairwise (ordN G):=Qik (λx f=>by simpa using (bc.mp f).2) λx f=>by simpa using (bc.mp f).2
def isort_ix{N G b:List Str}(f:N.Pairwise (ordN G))(l:∀w∈b,w∈N):(Qdc (b.map λw=>((N.idxOf w)))).map PV.int=encN ((ordB G b).map N.idxOf):=by
 have hm :=λw hw=>l w ((XG G b).mem_iff.mp hw);have e:=Qix (ms:=(ordB G b).map λw=>((N.idxOf w))) ((XG G b).map _) (by
  rw[i9];refine(Qil G b).imp_of_mem λ{x y} j B h=>?_;have:=idx_le f (hm x j) (hm y B) h;lia)
 rw[<-e];delta encN;rw[aH,aH];rfl
def YU{N:List Str}(h:w∈N):Yp (.tup (N.map .str)) [.str w]=some (pN (N.idxOf w)):=by
 show(match strs? (N.map PV.str) with
  |some ns=>if w∈ns then some (PV.int (ns.idxOf w)) else none
  |none=>none)=_
 rw[L2.PM.strs?_map];exact au h
def tpK(g:PV->List PV->Option PV)(q:Option (List PV))(p:PV):Option PV:=if QgY p=true then q.bind (g p) else none
def ev_mMtT g m l f:mMtT g m l f=(m f).bind (tpK g (l f)):=rfl
def tpK_s g q (N:List Str):tpK g q (.tup (N.map .str))=q.bind (g (.tup (N.map .str))):=by
 cases N<;>rfl
def rV(f:Str->Nat)(p:Rp):PV := .tup [pN (f p.1),.tup (encN (p.2.map f))]
local macro_rules|`(tactic| walk_at "ev")=>`(tactic| try simp (disch:=fail"e") only[ev_mSortDiff,ev_mMtT,tpK_s,EVs])
def QmQ{N G:List Str}(l:N.Pairwise (ordN G))(B:h∈N)(f:∀w∈b,w∈N)(hl:b.length<64):ZF [.tup (N.map .str),(Rw.r h b).v]=some (rV N.idxOf (h,ordB G b)):=by
 have e1:=YU B;have e2:=isort_ix l f;delta ZF Rw.v rV;walk_at "ev";rw[Ql PV.str (λw=>PV.int ((N.idxOf w))) _ λw hw=>⟨_,rfl,by
  walk_at "ev";rw[YU (f w hw)];rfl⟩]
 rw[show(b.map λw=>PV.int ((N.idxOf w)))=(b.map λw=>((N.idxOf w):Int)).map PV.int by rw[aH];rfl];walk_at "ev";rw[pSort_i (by rw[ai];exact hl),e2];walk_at "ev";rw[e1];walk_at "ev"
def tr(p:Gp):Tri:=("guess",p.1,p.2)
def srtG(f:List Gp):List Gp:=(Qcu (f.map tr)).map λt=>(t.2.1,t.2.2)
def QkC f:Qcu (f.map tr)=(srtG f).map tr:=by
 delta srtG;rw[aH];have h:∀t∈Qcu (f.map tr),(tr∘λt=>(t.2.1,t.2.2)) t=id t:=λt j=>by
  obtain⟨p,_,rfl⟩:=aU.mp ((Qaa _).mem_iff.mp j);rfl
 rw[eS h,List.map_id]
def YR f:(srtG f).Perm f:=by
 refine((Qaa _).map _).trans ?_;rw[aH];exact .of_eq (List.map_id'' (λ_=>rfl) _)
def tri_fst f:(f.map tr).map (·.2.1)=GN f:=by
 rw[aH];rfl
def Qmb{f:List Gp}(l:(GN f).Nodup)(hl:f.length<3):QdS [.lst (f.map λp=>(gRow p).v)]=some ((srtG f).map λp=>(gRow p).v):=by
 have e:(f.map λp=>(gRow p).v)=(f.map tr).map triV:=by rw[aH];rfl
 rw[e];show(match QjP ((f.map tr).map triV) with
  |some j=>if j.length<3 then (if triOk j then some ((Qcu j).map triV) else none) else none
  |none=>none)=_
 rw[Qfg];show(if (f.map tr).length<3 then (if triOk (f.map tr) then some ((Qcu (f.map tr)).map triV) else none) else none)=_;have h1:∀t∈f.map tr,t.1=((f.map tr).getD 0 tri0).1:=λt B=>by
  obtain⟨p,D,rfl⟩:=aU.mp B;cases f with
  |nil=>cases D
  |cons q f=>rfl
 rw[au (by rw[ai];exact hl),au ⟨h1,by rw[tri_fst];exact l⟩,QkC,aH];rfl
def bkV(f:Str->Nat)(n:Nat)(l:List Gp)(rs:List Rp):PV := .tup [pN n,.tup (encN (l.map λp=>f p.2)),.tup (rs.map (rV f))]
def ordR(G:List Str)(rs:List Rp):List Rp:=rs.map λp=>(p.1,ordB G p.2)
def keep_5 k a b s2 s3 s4:Qx k [1] [.fz a,.fz b,s2,s3,s4]=[.fz a,.fz b,s2,s3,s4]:=by
 cases k<;>rfl
def wds_g(h:p∈f):p.1∈nm f rs/\p.2∈nm f rs:=⟨QeW (Qbp.mpr (.inl ⟨p,h,.inl rfl⟩)),QeW (Qbp.mpr (.inl ⟨p,h,.inr rfl⟩))⟩
def QjO(h:p∈rs):p.1∈nm f rs/\∀w∈p.2,w∈nm f rs:=⟨QeW (Qbp.mpr (.inr ⟨p,h,.inl rfl⟩)),λw hw=>QeW (Qbp.mpr (.inr ⟨p,h,.inr hw⟩))⟩
def gnd0{R:List Rw}(pw:R.Pairwise λx y=>¬x.sim y):(GN (R.filterMap Rw.gp)).Nodup:=by
 induction R with
 |nil=>exact .nil
 |cons x R f =>
  obtain⟨h1,h2⟩:=cx.mp pw;cases x with
  |r h b=>rw[dw (by rfl)];exact f h2
  |g a b =>
   rw[cL (b:=(a,b)) (by rfl)];show(a::GN (R.filterMap Rw.gp)).Nodup;rw[bO];refine⟨λj=>?_,f h2⟩;obtain⟨p,l,e⟩:=aU.mp j;obtain⟨x,B,e2⟩:=bw.mp l;cases x with
   |g c d =>
    cases e2;exact h1 _ B e.symm
   |r h b=>cases e2
def Gd.gnd{R:List Rw}{M:List Str}(G:Gd R M):(GN (R.filterMap Rw.gp)).Nodup:=gnd0 G.pw
def Gd.rb(G:Gd R M)(f:p∈R.filterMap Rw.rp):(rRow p).Ok:=by
 obtain⟨x,j,e⟩:=bw.mp f;cases x with
 |g c d=>cases e
 |r h b=>cases e;exact G.ok _ j
local macro_rules|`(tactic| walk_at "ev")=>`(tactic| try simp (disch:=fail"e") only[ev_mSortDiff,ev_mMtT,tpK_s,ev_sExE,EVs])
def QmR{R:List Rw}{M:List Str}(G:Gd R M):ZG [.tup ((nm (R.filterMap Rw.gp) (R.filterMap Rw.rp)).map .str),.lst (R.map Rw.v)] =
  some (bkV (nm (R.filterMap Rw.gp) (R.filterMap Rw.rp)).idxOf (nm (R.filterMap Rw.gp) (R.filterMap Rw.rp)).length (srtG (R.filterMap Rw.gp)) (ordR (GN (R.filterMap Rw.gp)) (R.filterMap Rw.rp))):=by
 have hl:=G.len;have T:=G.ng;have H:=G.nr;have l:=G.gnd;have B:=λp f=>G.rb (p:=p) f;have D:=Qet (R:=R) (by lia);have E:=QiL (R:=R) (by lia);generalize R.filterMap Rw.gp=j at *;generalize R.filterMap Rw.rp=rs at *;have I:=nm_ord j rs;have J:∀p∈j,p.2∈nm j rs:=λp f=>(wds_g f).2;have L:∀p∈rs,p.1∈nm j rs/\∀w∈p.2,w∈nm j rs:=λp f=>QjO f;generalize nm j rs=N at *;have O :=(YR j).length_eq;delta ZG;walk_at "ev";rw[D];walk_at "ev";rw[Qmb l (by lia)];walk_at "ev";rw[keep_5];walk_at "ev";rw[Ql (λp=>(gRow p).v) (λp=>pN (N.idxOf p.2)) _ λp f=>⟨_,rfl,by
  have:=J p ((YR j).mem_iff.mp f);delta gRow Rw.v;walk_at "ev";rw[YU this]⟩]
 walk_at "ev";rw[E];walk_at "ev";rw[Ql (λp=>(rRow p).v) (λp=>rV N.idxOf (p.1,ordB (GN j) p.2)) _ λp f=>⟨_,rfl,by
  have:=L p f;obtain⟨_,_,_,U⟩:=B p f;walk_at "ev";rw[show rRow p=Rw.r p.1 p.2 from rfl,QmQ I this.1 this.2 (by lia)]⟩]
 walk_at "ev";delta bkV encN ordR;rw[aH,aH];rfl
def toldV(f:List Gp)(rs:List Rp):PV := .tup [.tup ((nm f rs).map .str),bkV (nm f rs).idxOf (nm f rs).length (srtG f) (ordR (GN f) rs)]
def e_lines(G:Gd R M):Zv [.lst (R.map λx=>.str x.line)]=some (toldV (R.filterMap Rw.gp) (R.filterMap Rw.rp)):=by
 have e1:=e_rows G;have e2:=e_refuse G;have e3:=e_names G;have f:=QmR G;delta Zv toldV;walk_at "ev";rw[e1];walk_at "ev";rw[e2];walk_at "ev";rw[e3];walk_at "ev";rw[f];walk_at "ev"
def QhZ{R:List Rw}(ok:∀x∈R,x.Ok)(hl:R.length<=60):(a5 nl (R.map Rw.line)).length<=9000:=by
 rw[Qy];have e3:nl.length=1:=rfl;have f:=Xw (R.map Rw.line) 110 λs j=>by
  obtain⟨x,l,rfl⟩:=aU.mp j;exact(QaK (ok x l)).2
 rw[ai]at f |-;rw[e3];lia
def tru_s(h:x.length<=100000):tru (.str x)=some (!(x.length==0)):=by
 show(if x.length<=LIM then some ((x.length:Int) != 0) else none)=_;rw[au (Zh h)];congr 1;grind
def Qgd(h:∀s∈w::ws,10∉s.cps.toList)(hl:(a5 nl (w::ws)).length<=9000):YJ (.str (a5 nl (w::ws))) [.str "\n"]=some ((w::ws).map .str):=by
 show(if ("\n".length==0)=false/\(a5 nl (w::ws)).length+2<=LIM then some ((cC (a5 nl (w::ws)) "\n").map PV.str) else none)=_;rw[au ⟨rfl,Zh (by lia)⟩,show "\n"=nl from rfl,Qhj w ws h]
def text_pos(h:1<=w.length):1<=(a5 nl (w::ws)).length:=by
 cases ws with
 |nil=>exact h
 |cons v ws =>
  rw[Zs,Zb,Zb];lia
def QdG{R:List Rw}(ok:∀x∈R,x.Ok)(hl:R.length<=60):ZN [.str (a5 nl (R.map Rw.line))]=some (.lst (R.map λx=>.str x.line)):=by
 have tl:=QhZ ok hl;delta ZN;cases R with
 |nil =>
  rw[ja,QlP];walk_at "ev";rw[tru_s (by decide+kernel),show(!(("":Str).length==0))=false by decide+kernel];walk_at "ev"
 |cons x R =>
  have B:=text_pos (ws:=R.map Rw.line) (QaK (ok x (by simp))).1;have f:=Qgd (λs j=>by
   obtain⟨y,l,rfl⟩:=aU.mp (show s∈(x::R).map Rw.line from j);exact line_nl (ok y l)) tl
  rw[ba]at tl |-;generalize a5 nl (x.line::R.map Rw.line)=T at *;walk_at "ev";rw[tru_s (by lia),show(!(T.length==0))=true by simp;lia];walk_at "ev";rw[f];walk_at "ev";simp
def QaY{N:List Str}{i:Nat}(h:N[i]?=some w):(N.map PV.str)[i]?=some (.str w):=by rw[aT,h];rfl
def Qlr{N:List Str}{f:Str->Nat}{h:Str}{b:List Str}(ok:(Rw.r h b).Ok)(B:N[f h]?=some h)(D:∀w∈b,N[f w]?=some w):Qz [.tup (N.map .str),rV f (h,b)]=some (.str (Rw.r h b).line):=by
 obtain⟨H,hw,O,I⟩:=ok;have l:=QaY B;have h1:=H.l2;have e2:(" if ":Str).length=4:=by decide+kernel
 have e3:(" ":Str).length=1:=by decide+kernel
 have T:=Xw b 12 λs J=>(hw s J).l2;delta Qz rV;cases b with
 |nil =>
  walk_at "ev";rw[show encN []=[] from rfl];walk_at "ev";rw[show(!![].isEmpty)=true from rfl];walk_at "ev";rw[l];walk_at "ev";rfl
 |cons y ys =>
  have j:(encN ((y::ys).map f)).isEmpty=false:=rfl;have L:encN ((y::ys).map f)=(y::ys).map λw=>pN (f w):=by delta encN;rw[aH];rfl
  have U:ys.length+1<=6:=I;generalize hE:encN ((y::ys).map f)=E at *;walk_at "ev";rw[j,show(!!false)=false from rfl];walk_at "ev";rw[l];walk_at "ev";rw[L];walk_at "ev";rw[show(pN (f y)::ys.map λw=>pN (f w))=(y::ys).map λw=>pN (f w) from rfl,Ql (λw=>pN (f w)) PV.str _ λw hw=>⟨_,rfl,by
   have:=QaY (D w hw);walk_at "ev";rw[this]⟩]
  have M:=pJoin_s (ys:=y::ys) (by rw[e3];lia);walk_at "ev";rw[show(PV.str y::ys.map PV.str)=(y::ys).map PV.str from rfl,M];walk_at "ev";rw[pAdd_s (by
   rw[XA,Qy,e3];lia)]
  walk_at "ev";rw[line_r]
def e_sguess{N:List Str}(ok:(Rw.g a b).Ok)(f:N[i]?=some a)(hj:N[j]?=some b):Ys [.tup (N.map .str),pN i,pN j]=some (.str (Rw.g a b).line):=by
 have h1:=ok.1.l2;have h2:=ok.2.l2;have l:=QaY f;have B:=QaY hj;have e1:("guess ":Str).length=6:=by decide+kernel
 have e2:(" unless ":Str).length=8:=by decide+kernel
 delta Ys;walk_at "ev";rw[l];walk_at "ev";rw[pAdd_s (by rw[XA];lia)];walk_at "ev";rw[B];walk_at "ev";rw[pAdd_s (by rw[XA,XA];lia)];walk_at "ev";rw[line_g]
def Qdd(f:List Gp)(rs:List Rp):List Rw:=f.map gRow++rs.map rRow
def QiQ(l:∀p∈B,(gRow p).Ok)(hr:∀p∈rs,(rRow p).Ok):∀x∈Qdd B rs,x.Ok:=by
 intro x j;rcases aP.mp j with h | h
 .obtain⟨p,f,rfl⟩:=aU.mp h;exact l p f
 .obtain⟨p,f,rfl⟩:=aU.mp h;exact hr p f
def e_sbook{N:List Str}{f:Str->Nat}{n:Nat}{l:List Gp}{rs:List Rp}(B:∀p∈l,(gRow p).Ok)(D:∀p∈rs,(rRow p).Ok)(U:l.length<=8)(Y:rs.length<=40)(I:∀(i:Nat) p,l[i]?=some p->N[i]?=some p.1)(J:∀p∈l,N[f p.2]?=some p.2)(L:∀p∈rs,N[f p.1]?=some p.1)(hw:∀p∈rs,∀w∈p.2,N[f w]?=some w) :
  Yf [.tup (N.map .str),bkV f n l rs]=some (.str (a5 nl ((Qdd l rs).map Rw.line))):=by
 have E:((encN (l.map λp=>f p.2)).zipIdx.map λx=>PV.tup [pN x.2,x.1])=l.zipIdx.map λp=>PV.tup [pN p.2,pN (f p.1.2)]:=by
  delta encN;rw[aH,ie,aH];rfl
 have H:l.zipIdx.length=l.length:=List.length_zipIdx;delta Yf bkV;walk_at "ev";rw[E];walk_at "ev";rw[Ql (λp:Gp×Nat=>PV.tup [pN p.2,pN (f p.1.2)]) (λp=>PV.str (gRow p.1).line) _ λp j=>by
  have h1:=jx.mp j;have h2:=bT h1;refine⟨_,rfl,?_⟩;walk_at "ev";rw[e_sguess (B p.1 h2) (I p.2 p.1 h1) (J p.1 h2)];rfl]
 rw[show(l.zipIdx.map λp=>PV.str (gRow p.1).line)=(l.map λp=>(gRow p).line).map PV.str by
  conv=>rhs;rw[<-iF 0 l]
  rw[aH,aH];rfl]
 walk_at "ev";rw[Ql (rV f) (λp=>PV.str (rRow p).line) _ λp j=>⟨_,rfl,by
  walk_at "ev";rw[show rV f p=rV f (p.1,p.2) from rfl,Qlr (D p j) (L p j) (hw p j)];rfl⟩]
 rw[show(rs.map λp=>PV.str (rRow p).line)=(rs.map λp=>(rRow p).line).map PV.str by rw[aH];rfl];walk_at "ev";rw[<-bF];walk_at "ev";have el:(l.map λp=>(gRow p).line)++(rs.map λp=>(rRow p).line)=(Qdd l rs).map Rw.line:=by
  delta Qdd;rw[bF,aH,aH];rfl
 rw[el];have M:=Xw ((Qdd l rs).map Rw.line) 110 λs O=>by
  obtain⟨x,T,rfl⟩:=aU.mp O;exact(QaK (QiQ B D x T)).2
 have e6:(Qdd l rs).length<=48:=by delta Qdd;rw[aO,ai,ai];lia
 have e3:("\n":Str).length=1:=by decide+kernel
 rw[ai]at M;rw[pJoin_s (by rw[e3,ai];lia)];walk_at "ev";rfl
local macro_rules|`(tactic| walk_at "ev")=>`(tactic| try simp (disch:=fail"e") only[EVl])
def e_cell(ns:List Int) k:Zn [.lst (ns.map .int),pN k]=some (.int (ns.getD k 0)):=by
 delta Zn;walk_at "ev";by_cases h:k<ns.length
 .rw[a8 h];walk_at "ev";simp[h];rfl
 .walk_at "ev";simp[h];rfl
def ZW(f:List Nat):Nat:=f.foldl (λm k=>m|||2^k) 0
theorem QbJ k:∀(f:List Nat) m,(f.foldl (λm k=>m|||2^k) m).testBit k=(m.testBit k||decide (k∈f))
 |[],m=>by simp
 |x::r,m=>by
  rw[ij,QbJ k r,fr,fT];by_cases h:x=k
  .subst h;simp
  .have j:k≠x:=λe=>h e.symm;simp[h,j]
def Zu f k:(ZW f).testBit k=decide (k∈f):=by
 delta ZW;rw[QbJ];simp
def insB(a b:Nat):Bool:=(a&&&b)==a
def QZ:insB a b=true↔∀k,a.testBit k=true->b.testBit k=true:=by
 delta insB;rw[bg];constructor
 .intro h k f;rw[<-h,eF]at f;simp at f;exact f.2
 .intro h;refine dA λk=>?_;rw[eF];cases f:a.testBit k with
  |false=>rfl
  |true=>rw[h k f];rfl
def Xf:insB (2^k) b=b.testBit k:=by
 rw[dH,QZ];constructor
 .intro h;exact h k gI
 .intro h j hj;rw[fT]at hj;simp at hj;rw[<-hj];exact h
def Qmv:insB (ZW l) b=l.all λk=>b.testBit k:=by
 rw[dH,QZ,bf];constructor
 .intro h k f;exact h k (by rw[Zu];simpa using f)
 .intro h k f;rw[Zu]at f;exact h k (by simpa using f)
def e_inside a b:QY [pN a,pN b]=some (.bl (insB a b)):=by
 delta QY;walk_at "ev";rfl
def Qit(h:∀k∈f,k<=1000) s2 B:∃l,forL (gSet 2) Qam (encN f) [B,.fz (pN 0),s2]=some (.nx [B,.fz (pN (ZW f)),l]):=by
 obtain⟨D,e,l,rfl⟩:=QiD (g:=gSet 2) (b:=Qam) pN (λm k=>m|||2^k)
  (λm j=>∃s2,j=[B,.fz (pN m),s2]) f 0 [B,.fz (pN 0),s2] ⟨s2,rfl⟩ (by
   rintro m j k E ⟨s2,rfl⟩;have:=h k E;refine⟨_,_,rfl,?_,.fz (pN k),rfl⟩;delta Qam;walk_at "ev")
 exact⟨l,e⟩
def Qes(h:∀k∈f,k<=1000):Zi [.lst (encN f)]=some (pN (ZW f)):=by
 delta Zi;walk_at "ev";obtain⟨s,e⟩:=Qit h .un (.fz (.lst (encN f)));rw[e];walk_at "ev"
def QiK(h:∀k∈f,k<=1000):Zi [.tup (encN f)]=some (pN (ZW f)):=by
 delta Zi;walk_at "ev";obtain⟨s,e⟩:=Qit h .un (.fz (.tup (encN f)));rw[e];walk_at "ev"
structure Rule where
 head:Nat
 body:List Nat
structure Bk where
 words:Nat
 banes:List Nat
 rules:List Rule
def Rule.enc(r:Rule):PV := .tup [pN r.head,.tup (encN r.body)]
def Bk.enc(b:Bk):PV := .tup [pN b.words,.tup (encN b.banes),.tup (b.rules.map Rule.enc)]
structure Bk.Ok (b:Bk):Prop where
 g8:b.banes.length<=8
 gw:b.banes.length<=b.words
 w60:b.words<=60
 r40:b.rules.length<=48
 bane:∀x∈b.banes,x<b.words
 hd:∀r∈b.rules,b.banes.length<=r.head/\r.head<b.words
 bd:∀r∈b.rules,r.body.Pairwise (· < ·)/\∀x∈r.body,x<b.words
inductive Way (b:Bk) (held:Nat):List Nat->Nat->Prop
 |nil:Way b held [] held
 |snoc {steps known i r}:Way b held steps known->b.rules[i]?=some r->(∀x∈r.body,known.testBit x=true)->known.testBit r.head=false->Way b held (steps++[i]) (known|||2^r.head)
def Qaz(b:Bk)(known:Nat):Prop:=∀r∈b.rules,(∀x∈r.body,known.testBit x=true)->known.testBit r.head=true
inductive Der (b:Bk) (held:Nat):Nat->Prop
 |held {w}:held.testBit w=true->Der b held w
 |rule {r}:r∈b.rules->(∀x∈r.body,Der b held x)->Der b held r.head
def Zl m k j:(m|||2^k).testBit j=(m.testBit j||decide (k=j)):=by
 rw[fr,fT]
def Way.der(h:Way b held steps known):∀w,known.testBit w=true->Der b held w:=by
 induction h with
 |nil=>exact λw hw=>.held hw
 |snoc _ hr j _ f =>
  intro w hw;rw[Zl]at hw;simp at hw;rcases hw with hw | hw
  .exact f w hw
  .subst hw;exact .rule (bT hr) λx l=>f x (j x l)
def Way.sub(h:Way b held steps known):∀w,held.testBit w=true->known.testBit w=true:=by
 induction h with
 |nil=>exact λw hw=>hw
 |snoc _ hr j _ f =>
  intro w hw;rw[Zl,f w hw];rfl
def Qaz.der(c:Qaz b known)(s:∀w,held.testBit w=true->known.testBit w=true)(h:Der b held w):known.testBit w=true:=by
 induction h with
 |held hw=>exact s _ hw
 |rule hr _ f=>exact c _ hr f
def IsYl(b:Bk)(held known:Nat):Prop:=∀w,known.testBit w=true↔Der b held w
def IsYl.of(h:Way b held steps known)(c:Qaz b known):IsYl b held known:=λw=>⟨h.der w,c.der h.sub⟩
def IsYl.unique(h1:IsYl b held k1)(h2:IsYl b held k2):k1=k2 :=
 dA λw=>by rw[dH,h1 w,h2 w]
def Der.mono(s:∀w,h1.testBit w=true->h2.testBit w=true)(d:Der b h1 w):Der b h2 w:=by
 induction d with
 |held hw=>exact .held (s _ hw)
 |rule hr _ f=>exact .rule hr f
set_option tactic.hygienic true in
def Der.lt(ok:b.Ok){held:Nat}(f:held<2^b.words)(d:Der b held w):w<b.words:=by
 induction d with
 |held hw =>
  rename_i w;rcases i6 w b.words with h | h
  .exact h
  .have :=aF f (dY (by decide) h);rw[hJ this]at hw;cases hw
 |rule hr _ _=>exact(ok.hd _ hr).2
def Der.guess(ok:b.Ok){held g:Nat}(f:g<b.banes.length)(d:Der b held g):held.testBit g=true:=by
 cases d with
 |held hw=>exact hw
 |rule hr _=>have:=(ok.hd _ hr).1;lia
def left(b:Bk)(known:Nat):Nat:=(b.rules.filter λr => !known.testBit r.head).length
theorem QcL{α:Type}{p q:α->Bool}:∀{l:List α}{x:α},x∈l->p x=true->q x=false->(∀y,q y=true->p y=true)->(l.filter q).length<(l.filter p).length
 |y::l,x,D,j,B,f=>by
  have le:∀l:List α,(l.filter q).length<=(l.filter p).length:=by
   intro l;induction l with
   |nil=>exact aB _
   |cons z l E =>
    rw[gX,gX];cases hz:q z with
    |true=>rw[f z hz];simp;exact E
    |false=>cases p z<;>simp<;>omega
  rcases ap.mp D with e | e
  .subst e;rw[d7 j,dF (by simp[B])];have:=le l;simp;lia
  .have:=QcL e j B f;rw[gX,gX];cases hz:q y with
   |true=>rw[f y hz];simp;omega
   |false=>cases p y<;>simp<;>omega
set_option tactic.hygienic true in
def Way.left(h:Way b held steps known):steps.length+left b known<=b.rules.length:=by
 induction h with
 |nil=>rw[cN,i4];exact bM _ _
 |snoc _ hr B l D =>
  rename_i st f i r _;have:DH.left b (f|||2^r.head)<DH.left b f:=QcL (bT hr) (by simp[l]) (by simp) (λy j=>by
   simp at j;simp[j.1])
  simp;lia
def hds(b:Bk)(steps:List Nat):List Nat:=steps.map λi=>(b.rules.getD i ⟨0,[]⟩).head
set_option tactic.hygienic true in
def Way.known{known:Nat}(h:Way b held steps known):known=held|||ZW (hds b steps):=by
 induction h with
 |nil=>show held=held|||0;simp
 |snoc _ hr j _ f =>
  rename_i st l i r _ _;have e:(b.rules.getD i ⟨0,[]⟩)=r:=by simp[hr]
  have e2:ZW (hds b (st++[i]))=ZW (hds b st)|||2^r.head:=by
   delta hds ZW;rw[bF,lU];simp only[ba,ja,ij,List.foldl_nil,e]
  rw[e2,f,Nat.or_assoc]
def Way.lt{known:Nat}(h:Way b held steps known):∀i∈steps,i<b.rules.length:=by
 induction h with
 |nil=>simp
 |snoc _ hr l _ f =>
  intro i j;rcases aP.mp j with h | h
  .exact f i h
  .rw[al.mp h];exact(aw.mp hr).1
theorem QcA{Post:PEnv->Prop}(I:Nat->PEnv->Prop)(step:∀n f,I n f->(t f=some false/\Post f)\/(t f=some true/\∃γ2 m,b f=some (.nx γ2)/\m<n/\I m γ2)) :
  ∀N n f,I n f->n<N->∃l,Qbr t b N f=some (.nx l)/\Post l
 |0,_,_,_,h=>by lia
 |N+1,n,f,B,H=>by
  rcases step n f B with⟨j,D⟩|⟨j,γ2,m,E,hm,h2⟩
  .exact⟨f,by unfold Qbr;rw[j];rfl,D⟩
  .obtain⟨l,e,p⟩:=QcA I step N m γ2 h2 (by lia);exact⟨l,by unfold Qbr;rw[j,a9,au rfl,E];exact e,p⟩
def enc_ix0(b:Bk):pIx b.enc (pN 0)=some (pN b.words):=rfl
def enc_ix1(b:Bk):pIx b.enc (pN 1)=some (.tup (encN b.banes)):=rfl
def enc_ix2(b:Bk):pIx b.enc (pN 2)=some (.tup (b.rules.map Rule.enc)):=rfl
def renc_ix0(r:Rule):pIx r.enc (pN 0)=some (pN r.head):=rfl
def renc_ix1(r:Rule):pIx r.enc (pN 1)=some (.tup (encN r.body)):=rfl
def flat_benc(b:Bk):flat b.enc=false:=rfl
def flat_renc(r:Rule):flat r.enc=false:=rfl
def Qnz(b:Bk):List PV:=b.rules.map λr=>pN (ZW r.body)
def zipIdx_map{α l:Type}(f:α->l)(xs:List α):(xs.map f).zipIdx=xs.zipIdx.map λp=>(f p.1,p.2):=by
 rw[ie];exact eS λp _=>rfl
def EVb:=ae (ae @enc_ix0 (ae @enc_ix1 @enc_ix2)) (ae (ae @renc_ix0 @renc_ix1) (ae @flat_benc @flat_renc))
local macro_rules|`(tactic| walk_at "ev")=>`(tactic| try simp (disch:=fail"e") only[EVb,e_inside,EVl])
def look(b:Bk)(held:Nat)(known:Nat)(steps:List Nat)(f:Bool)(s7 s8 s9:mQ):PEnv :=
 [.fz b.enc,.fz (pN held),.fz (.tup (b.rules.map Rule.enc)),.ow (Qnz b),.fz (pN known),.ow (encN steps),.fz (.bl f),s7,s8,s9]
def QhG(known:Nat)(r:Rule):Bool := !known.testBit r.head&&r.body.all λk=>known.testBit k
def turn_b1(ok:b.Ok)(B:b.rules[i]?=some r)(D:steps.length<=100) :
  ∃s7 s8 l,ZU (look b held known steps f (.fz (pN i)) (.fz r.enc) s9)=some (.nx (match QhG known r with
   |true=>look b held (known|||2^r.head) (steps++[i]) true s7 s8 l | false=>look b held known steps f s7 s8 l)):=by
 have hm:=bT B;have j:=(ok.hd r hm).2;have hw:=ok.w60;refine⟨.fz (pN i),.fz r.enc,.fz (pN (2^r.head)),?_⟩;delta ZU look QhG;walk_at "ev";rw[Xf];cases E:known.testBit r.head with
 |true=>walk_at "ev"
 |false =>
  walk_at "ev";have e:(Qnz b)[i]?=some (pN (ZW r.body)):=by delta Qnz;rw[aT,B];rfl
  rw[e];walk_at "ev";rw[Qmv];cases H:r.body.all λk=>known.testBit k with
  |true =>
   walk_at "ev";rw[Zt (by rw[encN_len];lia) rfl];walk_at "ev";simp[encN]
  |false=>walk_at "ev"
def QfH:QhG known r=true↔known.testBit r.head=false/\∀x∈r.body,known.testBit x=true:=by
 delta QhG;simp
def round_b2(ok:b.Ok)(w:Way b held steps known) :
  ∃l f B J L M,ZT (look b held known steps O s7 s8 s9)=some (.nx (look b held l f B J L M))/\Way b held f l /\
   (B=false->Qaz b l)/\(B=true->steps.length<f.length)/\steps.length<=f.length:=by
 delta ZT look;walk_at "ev";rw[zipIdx_map,aH];obtain⟨az,e,l,f,B,D,E,H,rfl,h1,h2,T,U⟩:=ZL (g:=Xg 7 8) (λp=>PV.tup [pN p.2,p.1.enc])
  (λpre γ=>∃l f B D E H,γ=look b held l f B D E H/\Way b held f l/\steps.length<=f.length /\
   (B=false->∀p∈pre,QhG l p.1=false)/\(B=true->steps.length<f.length))
  b.rules.zipIdx b.rules.zipIdx [] (look b held known steps false s7 s8 s9) rfl ⟨known,steps,false,s7,s8,s9,rfl,w,aB _,by simp,by simp⟩ (by
   rintro pre p post γ j ⟨kn,st,gr,D,E,H,rfl,h1,h2,T,U⟩;have hp:p∈b.rules.zipIdx:=by rw[<-j];simp
   have I :=by
    have:=jx.mp hp;simpa using this
   have hl:=h1.left;have hr:=ok.r40;obtain⟨u7,u8,u9,e⟩:=turn_b1 ok (steps:=st) I (by lia);refine⟨_,_,rfl,e,?_⟩;cases hf:QhG kn p.1 with
   |true =>
    obtain⟨f1,f2⟩:=QfH.mp hf;refine⟨_,_,_,_,_,_,rfl,h1.snoc I f2 f1,by simp;lia,by simp,λ_=>by simp;lia⟩
   |false =>
    refine⟨_,_,_,_,_,_,rfl,h1,h2,λY q hq=>?_,U⟩;rcases aP.mp hq with z | z
    .exact T Y q z
    .rw[al.mp z];exact hf)
 refine⟨l,f,B,D,E,H,?_,h1,λY r hr hb=>?_,U,h2⟩
 .exact e
 .obtain⟨i,I,av⟩:=dB.mp hr;have:=T Y (r,i) (jx.mpr (by simp[I,av]));cases hk:l.testBit r.head with
  |true=>rfl
  |false =>
   have:=QfH.mpr ⟨hk,hb⟩;simp_all
def QdJ{b:Bk}(ok:b.Ok) held:∃steps known,QS [b.enc,pN held]=some (.lst (encN steps))/\Way b held steps known/\Qaz b known:=by
 delta QS;have hr:=ok.r40;have hw:=ok.w60;walk_at "ev";rw[Ql Rule.enc (λr=>pN (ZW r.body)) b.rules λr hr=>⟨_,rfl,?_⟩]
 .have fl:(b.rules.map λr=>pN (ZW r.body)).all flat=true:=by rw[dM,bf];exact λ_ _=>rfl
  rw[eX,fl];walk_at "ev";obtain⟨I,e,known,steps,s7,s8,s9,rfl,h1,h2⟩:=QcA (t:=mTru (mVar 6))
   (Post:=λj=>∃known steps s7 s8 s9,j=look b held known steps false s7 s8 s9/\Way b held steps known/\Qaz b known)
   (λn j=>∃known steps f s7 s8 s9,j=look b held known steps f s7 s8 s9/\Way b held steps known/\(f=false->Qaz b known)/\n=2*(b.rules.length+1-steps.length)+(if f=true then 1 else 0))
   (by
    rintro n j ⟨known,steps,f,s7,s8,s9,rfl,h1,h2,rfl⟩;cases f with
    |false =>
     refine .inl ⟨?_,known,steps,s7,s8,s9,rfl,h1,h2 rfl⟩;delta look;walk_at "ev"
    |true =>
     refine .inr ⟨?_,?_⟩
     .delta look;walk_at "ev"
     .obtain⟨B,st,gr,D,E,H,e,w,c,l,l2⟩:=round_b2 ok h1;have J:=w.left;cases gr with
      |true=>exact⟨_,_,e,by have:=l rfl;lia,B,st,true,D,E,H,rfl,w,c,rfl⟩
      |false=>exact⟨_,_,e,by simp;lia,B,st,false,D,E,H,rfl,w,c,rfl⟩)
   1000 (2*(b.rules.length+1)+1) (look b held held [] true .un .un .un) ⟨held,[],true,.un,.un,.un,rfl,.nil,by simp,by simp⟩ (by lia)
  delta look at e;refine⟨steps,known,?_,h1,h2⟩;delta QeO;rw[show Qnz b=b.rules.map λr=>pN (ZW r.body) from rfl,show encN []=[] from rfl]at e;rw[e];walk_at "ev"
 .have:=(ok.bd r hr).2;walk_at "ev";rw[QiK λk L=>by have:=this k L;lia]
def yl(b:Bk)(held:Nat):Nat:=gD (IsYl b held)
def way_ex:∀n steps known,Way b held steps known->b.rules.length-steps.length=n->∃l f,Way b held l f/\Qaz b f:=by
 intro n;induction n with
 |zero =>
  intro steps known h E;refine⟨steps,known,h,λr hr j=>cE λhc=>?_⟩;obtain⟨i,B⟩:=kW hr;have:=(Way.snoc h B j (by simpa using hc)).left;simp at this;lia
 |succ n H =>
  intro steps known h E;by_cases hc:Qaz b known
  .exact⟨steps,known,h,hc⟩
  .obtain⟨r,hr⟩:=Classical.not_forall.mp hc;obtain⟨hr,D⟩:=lW.mp hr;obtain⟨j,I⟩:=lW.mp D;obtain⟨i,B⟩:=kW hr;exact H _ _ (Way.snoc h B j (by simpa using I)) (by simp;lia)
def yl_is(ok:b.Ok) held:IsYl b held (yl b held):=by
 obtain⟨steps,known,h1,h2⟩:=way_ex _ [] held .nil rfl;exact fy ⟨known,.of h1 h2⟩
def yl_eq(ok:b.Ok)(h:IsYl b held known):known=yl b held:=h.unique (yl_is ok held)
def hds_lt(ok:b.Ok)(h:∀i∈steps,i<b.rules.length):∀k∈hds b steps,k<b.words:=by
 intro k f;obtain⟨i,j,rfl⟩:=aU.mp f;have:=h i j;have e:b.rules.getD i ⟨0,[]⟩=b.rules[i]:=by simp[this]
 rw[e];exact(ok.hd _ (bi this)).2
def Xp(ok:b.Ok)(w:Way b held steps known):ZA [b.enc,pN held,.lst (encN steps)]=some (pN known):=by
 have hl:=w.left;have hr:=ok.r40;have hw:=ok.w60;delta ZA;walk_at "ev";rw[show encN steps=steps.map pN from rfl,Ql pN (λi=>pN (b.rules.getD i ⟨0,[]⟩).head) steps λi f=>⟨_,rfl,?_⟩]
 .rw[show(steps.map λi=>pN (b.rules.getD i ⟨0,[]⟩).head)=encN (hds b steps) by delta encN hds;rw[aH];rfl];walk_at "ev";rw[Qes λk j=>by have:=hds_lt ok w.lt k j;lia];walk_at "ev";rw[<-w.known]
 .have f:=w.lt i f;have e:b.rules[i]?=some (b.rules.getD i ⟨0,[]⟩):=by simp[f]
  walk_at "ev";rw[aT,e];walk_at "ev"
def QfI(ok:b.Ok) held:XC [b.enc,pN held]=some (pN (yl b held)):=by
 obtain⟨steps,known,e,h1,h2⟩:=QdJ ok held;have:=yl_eq ok (.of h1 h2);subst this;delta XC;walk_at "ev";rw[e];walk_at "ev";rw[Xp ok h1];walk_at "ev"
def RuleOk(g w:Nat)(r:Rule):Prop:=g<=r.head/\r.head<w/\r.body.Pairwise (· < ·)/\r.body.length<=6/\∀x∈r.body,x<w
theorem QfK:∀xs ,depL (encN xs)=0
 |[]=>by simp[encN,depL]
 |x::xs=>by
  have:=QfK xs;unfold encN at *;rw[ba];unfold depL;rw[this];simp[pN,dep]
theorem Qfw:∀xs ,okSL (encN xs)=true
 |[]=>by simp[encN,okSL]
 |x::xs=>by
  have:=Qfw xs;unfold encN at *;rw[ba];unfold okSL;rw[this];simp[pN,okS]
def Qio xs:okv (.lst (encN xs))=true:=by
 simp[okv,dep,okS,QfK,Qfw]
def Bk.Ok.of{banes:List Nat}{rules:List Rule}(l:banes.length<=8)(f:banes.length<=w)(hw:w<=60)(B:∀x∈banes,x<w)(hr:∀r∈rules,RuleOk banes.length w r)(hl:rules.length<=40):(⟨w,banes,rules⟩:Bk).Ok :=
 ⟨l,f,hw,by show rules.length<=48;lia,B,λr h=>⟨(hr r h).1,(hr r h).2.1⟩,λr h=>⟨(hr r h).2.2.1,(hr r h).2.2.2.2⟩⟩
def peq_nil xs:peq (.lst xs) (.lst [])=xs.isEmpty:=by
 cases xs<;>rfl
def Runs(b:Bk):(Nat->Prop)->List Nat->Prop
 |_,[]=>True
 |G,k::ks=>∃r,b.rules[k]?=some r/\(∀x∈r.body,G x)/\Runs b (λx=>G x\/x=r.head) ks
def XW(b:Bk)(k:Nat):Nat:=(b.rules.getD k ⟨0,[]⟩).head
def Qfa(b:Bk)(k:Nat):List Nat:=(b.rules.getD k ⟨0,[]⟩).body
def Goes(b:Bk)(f l:Nat)(K:List Nat)(N:Nat):Prop:=∀G ,(∀x,N.testBit x=true->l.testBit x=true->G x)->Runs b G K/\(G f\/∃k∈K,XW b k=f)
structure Kept2 (b:Bk) (word:Nat) (K:List Nat) (N:Nat):Prop where
 need:∀x,N.testBit x=true↔x=word\/∃k∈K,x∈Qfa b k
 lt:∀k∈K,k<b.rules.length
 last:∀k,K.getLast?=some k->XW b k=word
 later:∀pre k post,K=pre++k::post->XW b k=word\/∃j∈post,XW b k∈Qfa b j
def QlK{b:Bk}(ok:b.Ok)(B:b.rules[i]?=some r)(hl:Kr.length<=100) :
  ∃l,QF [.fz b.enc,.fz (pN f),.fz D,.fz (pN N),.ow (encN Kr),.fz (pN i),s6] =
   some (.nx (match N.testBit r.head with
    |true=>[.fz b.enc,.fz (pN f),.fz D,.fz (pN (N|||ZW r.body)),.ow (encN (Kr++[i])),.fz (pN i),l]
    |false=>[.fz b.enc,.fz (pN f),.fz D,.fz (pN N),.ow (encN Kr),.fz (pN i),l])):=by
 have hm:=bT B;have H:=(ok.hd r hm).2;have j:=(ok.bd r hm).2;have hw:=ok.w60;refine⟨.fz r.enc,?_⟩;delta QF;walk_at "ev";rw[aT,B];walk_at "ev";rw[Xf];cases N.testBit r.head with
 |false=>walk_at "ev"
 |true =>
  walk_at "ev";rw[QiK λk E=>by have:=j k E;lia];walk_at "ev";rw[Zt (by rw[encN_len];lia) rfl];walk_at "ev";rw[QmM]
set_option tactic.hygienic true in
def Qjl{b:Bk}(ok:b.Ok){held B:Nat}{O:PV}{steps:List Nat}{known:Nat}(w:Way b held steps known):∀N K s5 s6,K.length+steps.length<=100->Kept2 b B K N->Goes b B known K N ->
  ∃J D T I,forL (gSet 5) QF (encN steps.reverse) [.fz b.enc,.fz (pN B),.fz O,.fz (pN N),.ow (encN K.reverse),s5,s6]=some (.nx [.fz b.enc,.fz (pN B),.fz O,.fz (pN J),.ow (encN D.reverse),T,I]) /\
   Kept2 b B D J/\Goes b B held D J/\D.length<=K.length+steps.length/\∃S,List.Sublist S steps/\D=S++K:=by
 induction w with
 |nil=>exact λN K s5 s6 _ h1 h2=>⟨N,K,s5,s6,rfl,h1,h2,by simp,[],.slnil,rfl⟩
 |snoc wp hr hb hn ih =>
  rename_i st kn i r;intro N K s5 s6 hl h1 h2;simp only[aO,aG,cN]at hl;have U:XW b i=r.head:=by delta XW;simp[hr]
  have eb:Qfa b i=r.body:=by delta Qfa;simp[hr]
  obtain⟨I,e⟩:=QlK ok (Kr:=K.reverse) hr (by rw[eT];lia);have il :=(aw.mp hr).1;cases H:N.testBit r.head with
  |false =>
   rw[H]at e;obtain⟨J,D,Y,t6,e2,k1,k2,k3,S,k4,k5⟩:=ih N K (.fz (pN i)) I (by lia) h1 (λG M=>h2 G λx E f=>M x E (by
    rw[Zl]at f;simp at f;rcases f with f | f
    .exact f
    .rw[<-f,H]at E;cases E))
   refine⟨J,D,Y,t6,?_,k1,k2,by simp;lia,S,k4.trans (List.sublist_append_left _ _),k5⟩;rw[la,d0,jh,ii,fG];show forL (gSet 5) QF (pN i::encN st.reverse) _=_;rw[QgH rfl e];exact e2
  |true =>
   rw[H]at e;have k2:Kept2 b B (i::K) (N|||ZW r.body):=by
    refine⟨λx=>?_,λk f=>?_,λk f=>?_,λpre k post f=>?_⟩
    .rw[fr,Zu,dR,h1.need x,dP];constructor
     .rintro((z|⟨k,f,z⟩) | z)
      .exact .inl z
      .exact .inr ⟨k,ax _ f,z⟩
      .exact .inr ⟨i,bB,by rw[eb];exact z⟩
     .rintro(z|⟨k,f,z⟩)
      .exact .inl (.inl z)
      .rcases ap.mp f with y | y
       .subst y;rw[eb]at z;exact .inr z
       .exact .inl (.inr ⟨k,y,z⟩)
    .rcases ap.mp f with y | y
     .rw[y];exact il
     .exact h1.lt k y
    .cases K with
     |nil =>
      simp at f;subst f;rw[U];have:=(h1.need r.head).mp H;simpa using this
     |cons y l =>
      exact h1.last k f
    .cases pre with
     |nil =>
      obtain⟨rfl,rfl⟩:=f;rw[U];rcases (h1.need r.head).mp H with z|⟨j,hj,z⟩
      .exact .inl z
      .exact .inr ⟨j,hj,z⟩
     |cons y l =>
      simp at f;exact h1.later l k post f.2
   have g2:Goes b B kn (i::K) (N|||ZW r.body):=λG M=>by
    have bG:∀x∈r.body,G x:=λx E=>M x (by rw[fr,Zu];simp[E]) (hb x E);obtain⟨q1,L⟩:=h2 (λx=>G x\/x=r.head) λx E f=>by
     rw[Zl]at f;simp at f;rcases f with f | f
     .exact .inl (M x (by rw[fr,E];rfl) f)
     .exact .inr f.symm
    refine⟨⟨r,hr,bG,q1⟩,?_⟩;rcases L with(L | L)|⟨k,f,z⟩
    .exact .inl L
    .exact .inr ⟨i,bB,by rw[U];exact L.symm⟩
    .exact .inr ⟨k,ax _ f,z⟩
   obtain⟨J,D,Y,t6,e2,k1,k3,k4,S,k5,k6⟩:=ih (N|||ZW r.body) (i::K) (.fz (pN i)) I (by simp;lia) k2 g2;refine⟨J,D,Y,t6,?_,k1,k3,by simp at k4 |-;lia,S++[i],k5.append (.refl _),by rw[k6];simp⟩;rw[la,d0,jh,ii,fG];show forL (gSet 5) QF (pN i::encN st.reverse) _=_;rw[QgH (γ1:=[.fz b.enc,.fz (pN B),.fz O,.fz (pN N),.ow (encN K.reverse),.fz (pN i),s6]) rfl e];rw[d0]at e2;exact e2
structure IsWay (b:Bk) (held word:Nat) (K:List Nat):Prop where
 runs:Runs b (λx=>held.testBit x=true) K
 ends:held.testBit word=true\/∃k∈K,XW b k=word
 lt:∀k∈K,k<b.rules.length
 last:∀k,K.getLast?=some k->XW b k=word
 later:∀pre k post,K=pre++k::post->XW b k=word\/∃j∈post,XW b k∈Qfa b j
 len:K.length<=b.rules.length
 sub:∃steps known,Way b held steps known/\List.Sublist K steps
def QiH xs:(encN xs).reverse=encN xs.reverse:=by delta encN;rw[ji]
def e_needed(ok:b.Ok)(w:Way b held steps known)(l:known.testBit f=true)(hw:f<=60):∃K,ZY [b.enc,pN f,.lst (encN steps)]=some (.tup (encN K))/\IsWay b held f K:=by
 have hl:=w.left;have hr:=ok.r40;obtain⟨I,j,J,L,e,k1,k2,k3,S,B,k5⟩:=Qjl ok w (2^f) [] .un .un (by simp;lia)
  ⟨λx=>by rw[fT];simp;exact eq_comm,by simp,by simp,λpre k post h=>by simp at h⟩ (λG D=>⟨trivial,.inl (D f gI l)⟩)
 obtain⟨E,H⟩:=k2 (λx=>held.testBit x=true) λx _ h=>h;rw[bu]at k5;refine⟨j,?_,E,H,k1.lt,k1.last,k1.later,by simp at k3;lia,steps,known,w,by rw[k5];exact B⟩;delta ZY;walk_at "ev";rw[QiH];rw[jh,encN_nil]at e;rw[e];walk_at "ev";rw[QiH,kT]
def e_way(ok:b.Ok) held (hw:f<=60) :
  ((yl b held).testBit f=true/\∃K,Qhq [b.enc,pN held,pN f]=some (.tup (encN K))/\IsWay b held f K)\/((yl b held).testBit f=false/\Qhq [b.enc,pN held,pN f]=some .non):=by
 obtain⟨steps,known,e,h1,h2⟩:=QdJ ok held;have l:=yl_eq ok (.of h1 h2);rw[<-l];cases j:known.testBit f with
 |true =>
  obtain⟨K,e2,hK⟩:=e_needed ok h1 j hw;refine .inl ⟨rfl,K,?_,hK⟩;delta Qhq;walk_at "ev";rw[e];walk_at "ev";rw[Xp ok h1];walk_at "ev";rw[Xf,j];walk_at "ev";rw[e2];walk_at "ev"
 |false =>
  refine .inr ⟨rfl,?_⟩;delta Qhq;walk_at "ev";rw[e];walk_at "ev";rw[Xp ok h1];walk_at "ev";rw[Xf,j];walk_at "ev"
def tr_b(w known:Nat):List PV:=(ao w).map λk=>.bl (known.testBit k)
def tr_len w known:(tr_b w known).length=w:=by delta tr_b;rw[ai,am]
def tr_get(h:k<w):(tr_b w known)[k]?=some (.bl (known.testBit k)):=by
 delta tr_b;rw[aT,fU h];rfl
def tr_set w known k:(tr_b w known).set k (.bl true)=tr_b w (known|||2^k):=by
 refine eH λj=>?_;by_cases hj:j<w
 .rw[tr_get hj,Zl];by_cases h:k=j
  .subst h;rw[a0 (by rw[tr_len];exact hj)];simp
  .rw[aA h,tr_get hj];simp[h]
 .rw[bp (by rw[mE,tr_len];lia),bp (by rw[tr_len];lia)]
def tr_flat w known:(tr_b w known).all flat=true:=by
 delta tr_b;rw[dM,bf];exact λ_ _=>rfl
def testBit_one m k:(m/2^k&&&1==1)=m.testBit k:=by
 rw[lD];exact testBit_mod m k
def testBit_zero' m k:(m/2^k&&&1==0) = !m.testBit k:=by
 rw[<-testBit_one,lD];have:m/2^k%2=0\/m/2^k%2=1:=by lia
 rcases this with h | h<;>rw[h]<;>rfl
def hitL(b:Bk)(known:Nat):List Nat:=(ao b.banes.length).filter λg=>known.testBit (b.banes.getD g 0)
def stk(b:Bk)(held:Nat):Nat:=ZW (hitL b (yl b held))
def enumN xs:((encN xs).zipIdx.map λx=>PV.tup [pN x.2,x.1])=(ao xs.length).map λg=>PV.tup [pN g,pN (xs.getD g 0)]:=by
 refine eH λj=>?_;rw[aT,aT,List.getElem?_zipIdx];by_cases h:j<xs.length
 .delta encN;simp[h]
 .rw[bp (by delta encN;simp;lia),bp (by simp;lia)];rfl
theorem YW{α:Type} f p y:∀(xs:List α),(∀x∈xs,∃γ1,g (f x) B=some γ1/\t γ1=some (p x)/\(p x=true->e γ1=some (y x))) ->
  YO g t e B (xs.map f)=some ((xs.filter p).map y)
 |[],_=>rfl
 |x::xs,h=>by
  obtain⟨γ1,h1,h2,D⟩:=h x (by simp);have l:=YW f p y xs λz hz=>h z (by simp[hz]);rw[ba];unfold YO;rw[h1,a9,h2,a9];cases j:p x with
  |true =>
   rw[d7 j,D j,l];rfl
  |false =>
   rw[dF (by simp[j])];simp[l]
def EVt:=ae (ae EVb EVl) (ae (ae @e_inside @tr_get) (ae @tr_flat (ae @tr_set @testBit_one)))
local macro_rules|`(tactic| walk_at "ev")=>`(tactic| try simp (disch:=fail"e") only[EVt])
def hitL_lt(h:g∈hitL b k):g<b.banes.length:=a7.mp (bc.mp h).1
def Qlx{b:Bk}(ok:b.Ok)(h:g<b.banes.length):b.banes.getD g 0<b.words:=by
 have:b.banes.getD g 0=b.banes[g]:=by simp[h]
 rw[this];exact ok.bane _ (bi h)
def Qeq(ok:b.Ok) held:XL [b.enc,pN held]=some (pN (stk b held)):=by
 delta XL;have l:=ok.g8;have hw:=ok.w60;walk_at "ev";rw[QfI ok];walk_at "ev";rw[enumN];walk_at "ev";rw[YW (λg=>PV.tup [pN g,pN (b.banes.getD g 0)]) (λg=>(yl b held).testBit (b.banes.getD g 0)) pN (ao b.banes.length) λg f=>⟨_,rfl,?_,λ_=>rfl⟩]
 .rw[show(((ao b.banes.length).filter λg=>(yl b held).testBit (b.banes.getD g 0)).map pN)=encN (hitL b (yl b held)) from rfl];walk_at "ev";rw[Qes λk j=>by have:=hitL_lt j;lia];rfl
 .have:=Qlx ok (a7.mp f);walk_at "ev";rw[Xf]
def QjD(ok:b.Ok) held:Qaf [b.enc,pN held]=some (.bl (held&&&stk b held==0)):=by
 delta Qaf;walk_at "ev";rw[Qeq ok];walk_at "ev"
def Qgu:(stk b held).testBit g=true↔g<b.banes.length/\(yl b held).testBit (b.banes.getD g 0)=true:=by
 delta stk hitL;rw[Zu,dP,bc,a7]
def dif(a b:Nat):Nat:=a-(a&&&b)
def or_add:∀x y,x&&&y=0->x|||y=x+y:=by
 intro x;induction x using mB with
 |_ x f =>
  intro y h;by_cases j:x=0
  .subst j;simp
  .have h2:=f (x/2) (by lia) (y/2) (by rw[<-Nat.and_div_two,h]);have l:(x|||y)/2=x/2+y/2:=by rw[Nat.or_div_two,h2]
   have B := @Nat.or_mod_two_eq_one x y;have D := @Nat.and_mod_two_eq_one x y;lia
def sub_bit:∀(a c:Nat),(∀k,c.testBit k=true->a.testBit k=true)->∀k,(a-c).testBit k=(a.testBit k && !c.testBit k):=by
 intro a c h k;have e2:a ^^^ c=a-c:=by
  have f:(a ^^^ c)+c=a:=by
   have hd:(a ^^^ c)&&&c=0:=dA λi=>by
    rw[eF,ju,jg];cases hc:c.testBit i with
    |false=>simp
    |true=>rw[h i hc];rfl
   have ho:(a ^^^ c)|||c=a:=dA λi=>by
    rw[fr,ju];cases hc:c.testBit i with
    |false=>simp
    |true=>rw[h i hc];rfl
   rw[<-or_add _ _ hd,ho]
  lia
 rw[<-e2,ju];cases hc:c.testBit k with
 |false=>simp
 |true=>rw[h k hc];rfl
def bane_get{b:Bk}(h:j<b.banes.length):b.banes[j]?=some (b.banes.getD j 0):=by simp[h]
def pNe_nil' xs:pNe (.lst (encN xs)) (.lst [])=some (.bl (!xs.isEmpty)):=by
 rw[pNe_ok (Qio xs) (show okv (.lst [])=true from Qio []),peq_nil];cases xs<;>rfl
def pAnd_inv(a b:Nat):pAnd (pN a) (.int (dh b))=some (pN (dif a b)):=by
 delta pN;rw[pAnd_i,bitAnd_pn (by lia) (by delta dh;lia)];have e:(dh (dh b)).toNat=b:=by delta dh;lia
 rw[e,c9];delta dif;have := @jv a b;congr 2;lia
def Xc a b k:(dif a b).testBit k=(a.testBit k && !b.testBit k):=by
 delta dif;rw[sub_bit a (a&&&b) (λk h=>by simp at h;exact h.1),eF];cases a.testBit k<;>cases b.testBit k<;>rfl
def pInv_n b:pInv (pN b)=some (.int (dh b)):=rfl
def uns(b:Bk)(held:Nat):Nat:=dif (2^b.banes.length-1) (stk b held)
def dfd(b:Bk)(held:Nat):Nat:=uns b (uns b held)
def Qkz:(uns b held).testBit g=(decide (g<b.banes.length) && !(stk b held).testBit g):=by
 delta uns;rw[Xc,Nat.testBit_two_pow_sub_one]
def QjX b held:uns b held<2^b.banes.length:=by
 have:=ic b.banes.length;delta uns dif;omega
def dfd_lt b held:dfd b held<2^b.banes.length:=QjX _ _
def Qdm(h:m<2^n)(f:m.testBit k=true):k<n:=by
 rcases i6 k n with h1 | h1
 .exact h1
 .rw[hJ (aF h (dY (by decide) h1))]at f;cases f
def Qkx(ok:b.Ok)(s:∀w,h1.testBit w=true->h2.testBit w=true)(d:(yl b h1).testBit w=true):(yl b h2).testBit w=true :=
 (yl_is ok h2 w).mpr (((yl_is ok h1 w).mp d).mono s)
def stk_mono(ok:b.Ok)(s:∀w,h1.testBit w=true->h2.testBit w=true)(d:(stk b h1).testBit g=true):(stk b h2).testBit g=true:=by
 rw[Qgu]at *;exact⟨d.1,Qkx ok s d.2⟩
local macro_rules|`(tactic| walk_at "ev")=>`(tactic| try simp (disch:=fail"e") only[pInv_n,pAnd_inv,EVt])
def Qbe{b:Bk}(ok:b.Ok):ZB [b.enc]=some (pN (2^b.banes.length-1)):=by
 delta ZB;have f:=ok.g8;have j:=ic b.banes.length;walk_at "ev"
def QbB(ok:b.Ok) held:YA [b.enc,pN held]=some (pN (uns b held)):=by
 delta YA;walk_at "ev";rw[Qbe ok,Qeq ok];walk_at "ev";rfl
def Qak(ok:b.Ok) held:Zg [b.enc,pN held]=some (pN (dfd b held)):=by
 delta Zg;walk_at "ev";rw[QbB ok];walk_at "ev";rw[QbB ok];rfl
def std(b:Bk)(held:Nat):Bool:=(held&&&stk b held==0)&&insB held (dfd b held)
def e_stands(ok:b.Ok) held:QbW [b.enc,pN held]=some (.bl (std b held)):=by
 delta QbW std;walk_at "ev";rw[QjD ok];cases held&&&stk b held==0 with
 |true =>
  walk_at "ev";rw[Qak ok];walk_at "ev"
 |false=>walk_at "ev"
def pow8(h:n<=8):2^n<=256:=dY (by decide) h
def pAdd_ni a b:pAdd (pN a) (.int b)=some (.int (a+b)):=pAdd_i _ _
def pAdd_in a b:pAdd (.int a) (pN b)=some (.int (a+b)):=pAdd_i _ _
def runO_2':runO N 2 m [f,l]=(m (QQ N [f,l])).bind outO:=rfl
def outO_ro' xs:outO (.ro xs)=some xs:=rfl
def isN_l xs:isN (.lst xs)=false:=rfl
def isN_b b:isN (.bl b)=false:=rfl
def QhW(ok:b.Ok)(s:∀w,h1.testBit w=true->h2.testBit w=true)(d:(uns b h2).testBit g=true):(uns b h1).testBit g=true:=by
 rw[Qkz,aN]at *;refine⟨d.1,?_⟩;cases f:(stk b h1).testBit g with
 |false=>rfl
 |true=>have:=stk_mono ok s f;rw[this]at d;simp at d
def dfd_mono(ok:b.Ok)(s:∀w,h1.testBit w=true->h2.testBit w=true)(d:(dfd b h1).testBit g=true):(dfd b h2).testBit g=true :=
 QhW ok (λ_ h=>QhW ok s h) d
def pCatT_t(h1:a≠[])(h2:b≠[])(h:a.length+b.length<=100000):Qnp (.tup a) (.tup b)=some (.tup (a++b)):=au ⟨h1,h2,Zh h⟩
local macro_rules|`(tactic| walk_at "ev")=>`(tactic| try simp (disch:=fail"e") only[testBit_zero',pInv_n,pAnd_inv,EVt])
def QcN(f:n<=60)(h:m<2^n):XN [pN m]=some (.lst (encN (plN m))):=by
 have j:Qcz m<=60:=by
  delta Qcz;split
  .lia
  .rename_i h0;have:=(kS h0).mpr h;lia
 delta XN;walk_at "ev";rw[compNF (λk=>m.testBit k) (ao (Qcz m)) λk l=>⟨_,rfl,by walk_at "ev",rfl⟩];rfl
def XT(ok:b.Ok) held (hw:f<=1000):Yg [b.enc,pN held,pN f]=some (.bl ((yl b held).testBit f)):=by
 delta Yg;walk_at "ev";rw[QfI ok];walk_at "ev";rw[Xf]
def IsRs(b:Bk)(f U:Nat):Prop:=(yl b U).testBit f=true/\∀g,U.testBit g=true->(yl b (dif U (2^g))).testBit f=false
def QgL a b k (h:(dif a b).testBit k=true):a.testBit k=true:=by
 rw[Xc]at h;simp at h;exact h.1
def QdK{b:Bk}(ok:b.Ok){within f:Nat}(J:within<2^b.banes.length)(hw:f<b.words)(L:(yl b within).testBit f=true) :
  ∃U,QD [b.enc,pN within,pN f]=some (pN U)/\(∀g,U.testBit g=true->within.testBit g=true)/\IsRs b f U:=by
 have M:=ok.w60;have h8:=ok.g8;delta QD;walk_at "ev";rw[XT ok _ (by lia),L];walk_at "ev";rw[QcN (show b.banes.length<=60 by lia) J];walk_at "ev";obtain⟨T,e,U,s4,s5,rfl,h1,h2,D⟩:=ZL (g:=gSet 4) pN
  (λpre O=>∃(U:Nat)(s4 s5:mQ),O=[.fz b.enc,.fz (pN within),.fz (pN f),.fz (pN U),s4,s5]/\(∀g,U.testBit g=true->within.testBit g=true)/\(yl b U).testBit f=true/\∀g∈pre,U.testBit g=true->(yl b (dif U (2^g))).testBit f=false)
  (plN within) (plN within) [] [.fz b.enc,.fz (pN within),.fz (pN f),.fz (pN within),.un,.un] rfl ⟨within,.un,.un,rfl,λ_ h=>h,L,by simp⟩ (by
   rintro pre g post O l ⟨U,s4,s5,rfl,h1,h2,D⟩;have E:g∈plN within:=by rw[<-l];simp
   have Y:=Qdm J (Qas.mp E);have e:QaF [.fz b.enc,.fz (pN within),.fz (pN f),.fz (pN U),.fz (pN g),s5]=some (.nx (match (yl b (dif U (2^g))).testBit f with
    |true=>[.fz b.enc,.fz (pN within),.fz (pN f),.fz (pN (dif U (2^g))),.fz (pN g),.fz (pN (dif U (2^g)))]
    |false=>[.fz b.enc,.fz (pN within),.fz (pN f),.fz (pN U),.fz (pN g),.fz (pN (dif U (2^g)))])):=by
    delta QaF;walk_at "ev";rw[XT ok _ (by lia)];cases (yl b (dif U (2^g))).testBit f with
    |_=>walk_at "ev"
   refine⟨_,_,rfl,e,?_⟩;cases H:(yl b (dif U (2^g))).testBit f with
   |true =>
    refine⟨dif U (2^g),_,_,rfl,λk H=>h1 k (QgL _ _ _ H),H,λk j B=>?_⟩;rcases aP.mp j with z | z
    .cases I:(yl b (dif (dif U (2^g)) (2^k))).testBit f with
     |false=>rfl
     |true =>
      have:=Qkx ok (h2:=dif U (2^k)) (λw hw=>by
       rw[Xc,Xc]at hw;rw[Xc];simp at hw;simp[hw]) I
      rw[D k z (QgL _ _ _ B)]at this;cases this
    .rw[al.mp z,Xc,gI]at B;simp at B
   |false =>
    refine⟨U,_,_,rfl,h1,h2,λk j B=>?_⟩;rcases aP.mp j with z | z
    .exact D k z B
    .rw[al.mp z];exact H)
 rw[show encN (plN within)=(plN within).map pN from rfl,e];walk_at "ev";exact⟨U,rfl,h1,h2,λg E=>D g (Qas.mpr (h1 g E)) E⟩
def Qdp(ok:b.Ok)(hw:f<b.words)(l:(yl b within).testBit f=false):QD [b.enc,pN within,pN f]=some .non:=by
 have j:=ok.w60;delta QD;walk_at "ev";rw[XT ok _ (by lia),l];walk_at "ev"
def bn(b:Bk)(g:Nat):Nat:=b.banes.getD g 0
def bn_lt(ok:b.Ok)(h:g<b.banes.length):bn b g<b.words:=Qlx ok h
def bn_get(h:j<b.banes.length):b.banes[j]?=some (bn b j):=bane_get h
def dif_lt(h:a<2^n):dif a c<2^n:=by delta dif;omega
def Qka{U W n:Nat}(hw:W<2^n)(h:∀g,U.testBit g=true->W.testBit g=true):U<2^n:=jP _ λi j=>by
 cases f:U.testBit i with
 |false=>rfl
 |true=>have:=Qdm hw (h i f);lia
local macro_rules|`(tactic| walk_at "ev")=>`(tactic| try simp (disch:=fail"e") only[testBit_zero',pInv_n,pAnd_inv,isN_l,isN_b,EVt])
def Qau(ok:b.Ok)(B:f<2^b.banes.length)(h0:f≠0)(D:within<2^b.banes.length)(I:∀g,f.testBit g=true->(yl b within).testBit (bn b g)=true) :
  ∃g U,Zm [b.enc,pN f,pN within]=some (.tup [pN g,pN U])/\f.testBit g=true/\(∀k,U.testBit k=true->within.testBit k=true)/\IsRs b (bn b g) U:=by
 have L:=ok.g8;obtain⟨g,t,e⟩:∃g t,plN f=g::t:=by
  obtain⟨k,E⟩:=Nat.exists_testBit_of_ne_zero h0;cases H:plN f with
  |nil =>
   have:=Qas.mpr E;rw[H]at this;cases this
  |cons g t=>exact⟨g,t,rfl⟩
 have j:f.testBit g=true:=Qas.mp (by rw[e];simp);have l:=Qdm B j;obtain⟨U,J,h1,h2⟩:=QdK ok D (bn_lt ok l) (I g j);refine⟨g,U,?_,j,h1,h2⟩;delta Zm;walk_at "ev";rw[QcN (show b.banes.length<=60 by lia) B,e];walk_at "ev";rw[bn_get l];walk_at "ev";rw[J];walk_at "ev"
def std_eq b held:std b held=((held&&&stk b held==0)&&(dif held (dfd b held)==0)):=by
 delta std;congr 1;rw[dH,QZ,bg];constructor
 .intro h;refine dA λk=>?_;rw[Xc,jg];cases f:held.testBit k with
  |false=>rfl
  |true=>rw[h k f];rfl
 .intro h k f;have:(dif held (dfd b held)).testBit k=false:=by rw[h,jg]
  rw[Xc,f]at this;simpa using this
inductive Flaw (b:Bk) (held:Nat):PV->Prop
 |non:std b held=true->Flaw b held .non
 |torn {g U:Nat}:std b held=false->(held&&&stk b held==0)=false->held.testBit g=true->(∀k,U.testBit k=true->held.testBit k=true)->IsRs b (bn b g) U->Flaw b held (.tup [.str "torn",pN g,pN U])
 |bare {g U:Nat}:std b held=false->(held&&&stk b held==0)=true->held.testBit g=true->(∀k,U.testBit k=true->(uns b held).testBit k=true)->IsRs b (bn b g) U->Flaw b held (.tup [.str "bare",pN g,pN U])
def e_flaw{b:Bk}(ok:b.Ok){held:Nat}(l:held<2^b.banes.length):∃p,QeP [b.enc,pN held]=some p/\Flaw b held p:=by
 delta QeP;walk_at "ev";rw[Qeq ok];walk_at "ev";have f:=std_eq b held;cases hz:(held&&&stk b held==0) with
 |false =>
  rw[hz,jM]at f;have h0 :=by simpa using hz
  obtain⟨g,U,e,h1,h2,D⟩:=Qau ok (iQ jv l) h0 l (λg j=>by
   rw[eF,aN]at j;exact(Qgu.mp j.2).2)
  rw[show(held&&&stk b held != 0)=true by simpa using h0];walk_at "ev";rw[e];walk_at "ev";walk_at "ev";refine⟨_,rfl,.torn f hz ?_ h2 D⟩;rw[eF,aN]at h1;exact h1.1
 |true =>
  rw[hz,gL]at f;rw[show(held&&&stk b held != 0)=false by rw[bne,hz];rfl];walk_at "ev";rw[Qak ok];walk_at "ev";cases B:(dif held (dfd b held)==0) with
  |true =>
   rw[show(dif held (dfd b held) != 0)=false by rw[bne,B];rfl];walk_at "ev";exact⟨_,rfl,.non (by rw[f,B])⟩
  |false =>
   have h0 :=by simpa using B
   obtain⟨g,U,e,h1,h2,D⟩:=Qau ok (dif_lt l) h0 (QjX b held) (λg j=>by
    have E:=Qdm (dif_lt l) j;rw[Xc]at j;have hd:(dfd b held).testBit g=false:=by
     cases H:(dfd b held).testBit g with
     |false=>rfl
     |true=>rw[H]at j;simp at j
    have e:(dfd b held).testBit g=(decide (g<b.banes.length) && !(stk b (uns b held)).testBit g):=Qkz;rw[hd,a8 E,gL]at e;have :=by simpa using e.symm
    exact(Qgu.mp this).2)
   rw[show(dif held (dfd b held) != 0)=true by simpa using h0];walk_at "ev";rw[QbB ok];walk_at "ev";rw[e];walk_at "ev";walk_at "ev";exact⟨_,rfl,.bare (by rw[f,B]) hz (QgL _ _ _ h1) h2 D⟩
def pAnyB_l(bs:List Bool):Qnq [.lst (bs.map .bl)]=some (.bl (bs.any id)):=by
 show(bls? (bs.map PV.bl)).map (λbs=>PV.bl (bs.any id))=_;rw[Qez];rfl
def it(b:Bk):Nat->Nat
 |0=>0
 |i+1=>dfd b (it b i)
theorem it_lt b:∀i,it b i<2^b.banes.length
 |0=>ic _
 |i+1=>dfd_lt b _
theorem QgF(ok:b.Ok):∀i {g:Nat},(it b i).testBit g=true->(it b (i+1)).testBit g=true
 |0,g,h=>by unfold it at h;simp at h
 |i+1,g,h=>dfd_mono ok (λw hw=>QgF ok i hw) h
def lft(b:Bk)(i:Nat):Nat:=((ao b.banes.length).filter λg => !(it b i).testBit g).length
def lft_lt(ok:b.Ok)(h:it b (i+1)≠it b i):lft b (i+1)<lft b i:=by
 obtain⟨g,f,j⟩:∃g,(it b (i+1)).testBit g=true/\(it b i).testBit g=false:=by
  refine cE λB=>h ?_;refine dA λg=>?_;cases h1:(it b i).testBit g with
  |true=>exact QgF ok i h1
  |false =>
   cases h2:(it b (i+1)).testBit g with
   |false=>rfl
   |true=>exact absurd ⟨g,h2,h1⟩ B
 exact QcL (a7.mpr (Qdm (it_lt b (i+1)) f)) (by simp[j]) (by simp[f]) λy l=>by
  cases h2:(it b i).testBit y with
  |false=>rfl
  |true=>rw[QgF ok i h2]at l;cases l
def Last(b:Bk)(m:Nat):Prop:=it b (m+1)=it b m/\∀j,j<m->it b (j+1)≠it b j
def Last.unique(h:Last b m)(l:Last b f):m=f:=by
 rcases i5 m f with q | q | q
 .exact absurd h.1 (l.2 m q)
 .exact q
 .exact absurd l.1 (h.2 f q)
def itL(b:Bk)(m:Nat):List Nat:=(ao (m+1)).map (it b)
def e_rounds{b:Bk}(ok:b.Ok):∃m,QbX [b.enc]=some (.lst (encN (itL b m)))/\Last b m/\m<=8:=by
 have M:=ok.g8;delta QbX;walk_at "ev";obtain⟨J,e,i,rfl,h1,h2,L⟩:=QcA (t:=truB (bin2 pNe (Qc Zg (Qa (mVar 0) (Qa (mVar 1) aNil))) (mVar 1))) (b:=QcO)
  (Post:=λf=>∃i,f=[.fz b.enc,.fz (pN (it b i)),.ow (encN (itL b i))]/\it b (i+1)=it b i/\(∀j,j<i->it b (j+1)≠it b j)/\lft b i+i<=lft b 0)
  (λn f=>∃i,f=[.fz b.enc,.fz (pN (it b i)),.ow (encN (itL b i))]/\(∀j,j<i->it b (j+1)≠it b j)/\n=lft b i/\lft b i+i<=lft b 0)
  (by
   rintro n f ⟨i,rfl,D,rfl,E⟩;have H:(truB (bin2 pNe (Qc Zg (Qa (mVar 0) (Qa (mVar 1) aNil))) (mVar 1))) [.fz b.enc,.fz (pN (it b i)),.ow (encN (itL b i))]=some (!(it b (i+1)==it b i)):=by
    walk_at "ev";rw[Qak ok];walk_at "ev";rfl
   by_cases he:it b (i+1)=it b i
   .exact .inl ⟨by rw[H,show(it b (i+1)==it b i)=true by rw[bg];exact he];rfl,i,rfl,he,D,E⟩
   .have l:=lft_lt ok he;refine .inr ⟨by rw[H,show(it b (i+1)==it b i)=false by rw[aW];exact he];rfl,_,lft b (i+1),?_,l,i+1,rfl,λj hj=>?_,rfl,by lia⟩
    .have I:i<=8:=by
      have:=bM (λg => !(it b 0).testBit g) (ao b.banes.length);rw[am]at this;delta lft at E;lia
     delta QcO;walk_at "ev";rw[Qak ok];walk_at "ev";rw[Zt (by rw[encN_len];delta itL;rw[ai,am];lia) rfl];walk_at "ev";delta itL;rw[ig (n:=i+1),bF,<-QiI];rfl
    .by_cases B:j=i
     .subst B;exact he
     .exact D j (by lia))
  1000 (lft b 0) [.fz b.enc,.fz (pN (it b 0)),.ow (encN (itL b 0))] ⟨0,rfl,by simp,rfl,by lia⟩ (by
   have:=bM (λg => !(it b 0).testBit g) (ao b.banes.length);rw[am]at this;delta lft;lia)
 have I:i<=8:=by
  have:=bM (λg => !(it b 0).testBit g) (ao b.banes.length);rw[am]at this;delta lft at L;lia
 delta QeO;rw[show([mQ.fz b.enc,mQ.fz (pN 0),mQ.ow [pN 0]])=[.fz b.enc,.fz (pN (it b 0)),.ow (encN (itL b 0))] from rfl,e];walk_at "ev";exact⟨i,rfl,⟨h1,h2⟩,I⟩
theorem QfF{α:Type} f (v:α->PV) p (I:PEnv->Prop):∀(xs:List α) l,I l ->
  (∀x∈xs,∀l,I l->∃γ1,g (f x) l=some γ1/\(p x=false->∃γ2,b γ1=some (.nx γ2)/\I γ2)/\(p x=true->b γ1=some (.rt (v x)))) ->
  (xs.find? p=none/\∃B,forL g b (xs.map f) l=some (.nx B)/\I B)\/∃x,xs.find? p=some x/\forL g b (xs.map f) l=some (.rt (v x))
 |[],l,h0,_=>.inl ⟨rfl,l,rfl,h0⟩
 |x::xs,l,h0,step=>by
  obtain⟨γ1,e1,h1,h2⟩:=step x (by simp) l h0;cases j:p x with
  |true =>
   refine .inr ⟨x,by simp[j],?_⟩;rw[ba];unfold forL;rw[e1,a9,h2 j];rfl
  |false =>
   obtain⟨γ2,e2,D⟩:=h1 j;rw[ba,QgH e1 e2,List.find?_cons_of_neg (by simp[j])];exact QfF f v p I xs γ2 D λy E=>step y (by simp[E])
def rkV(b:Bk)(n g:Nat):PV:=match (ao n).find? (λj=>(it b j).testBit g) with
 |some j=>pN j
 |none=>.non
def QmP(I:g<=1000)(hm:m<=8):QaS [.lst (encN (itL b m)),pN g]=some (rkV b (m+1) g):=by
 delta QaS;walk_at "ev";rw[enumN,show(itL b m).length=m+1 by delta itL;simp];have B:∀j,j∈ao (m+1)->(itL b m).getD j 0=it b j:=λj hj=>by
  have:=a7.mp hj;delta itL;simp[this]
 rw[eS λj hj=>by rw[B j hj]];rcases QfF (g:=Xg 2 3) (λj=>PV.tup [pN j,pN (it b j)]) pN (λj=>(it b j).testBit g) (λl=>∃s2 s3,l=[.fz (.lst (encN (itL b m))),.fz (pN g),s2,s3])
  (ao (m+1)) [.fz (.lst (encN (itL b m))),.fz (pN g),.un,.un] ⟨.un,.un,rfl⟩ (by
   rintro j hj l ⟨s2,s3,rfl⟩;refine⟨_,rfl,?_⟩;have e:YY [.fz (.lst (encN (itL b m))),.fz (pN g),.fz (pN j),.fz (pN (it b j))]=ifK (Yr 2) sNx [.fz (.lst (encN (itL b m))),.fz (pN g),.fz (pN j),.fz (pN (it b j))] ((it b j).testBit g):=by
    delta YY;walk_at "ev";rw[Xf]
   show(_->∃γ2,YY [.fz (.lst (encN (itL b m))),.fz (pN g),.fz (pN j),.fz (pN (it b j))]=_/\_)/\(_->YY [.fz (.lst (encN (itL b m))),.fz (pN g),.fz (pN j),.fz (pN (it b j))]=_);rw[e];cases (it b j).testBit g with
   |true=>exact⟨λh=>(by cases h),λ_=>rfl⟩
   |false=>exact⟨λ_=>⟨_,rfl,_,_,rfl⟩,λh=>by cases h⟩) with⟨f,D,e,s2,s3,rfl⟩|⟨j,f,e⟩
 .rw[e];walk_at "ev";delta rkV;rw[f]
 .rw[e];walk_at "ev";delta rkV;rw[f]
def rk_flat b n g:flat (rkV b n g)=true:=by
 delta rkV;split<;>rfl
def QcM{b:Bk}(ok:b.Ok):∃m,XD [b.enc]=some (.tup [pN (it b m),.tup ((ao b.banes.length).map λg=>rkV b (m+1) g)])/\Last b m/\m<=8:=by
 have j:=ok.g8;obtain⟨m,e,h1,h2⟩:=e_rounds ok;refine⟨m,?_,h1,h2⟩;delta XD;walk_at "ev";rw[e];walk_at "ev";rw[Qdl (λg=>rkV b (m+1) g) (ao b.banes.length) λg f=>⟨_,rfl,by
  have:=a7.mp f;walk_at "ev";rw[QmP (by lia) h2]⟩]
 rw[eX,show((ao b.banes.length).map λg=>rkV b (m+1) g).all flat=true by rw[dM,bf];exact λg _=>rk_flat b _ g];walk_at "ev";rw[show atI (encN (itL b m)) (-((1:Nat):Int))=some (pN (it b m)) by
  delta itL;rw[ig,bF,<-QiI];exact atI_last1 _ _]
 walk_at "ev"
def QlY(h:pre++x::post=ao N):pre=ao x/\x<N:=by
 have hl:=congrArg ee h;simp at hl;have f:(ao N)[pre.length]?=some x:=by rw[<-h];simp
 rw[fU (by lia)]at f;cases f;refine⟨?_,by lia⟩;have:=congrArg (List.take pre.length) h;rw[List.take_left,List.take_range,mD (by lia)]at this;exact this
def Qgt{V U:Nat}(h:∀k,V.testBit k=true->U.testBit k=true):V<=U:=by
 have:U&&&V=V:=dA λi=>by
  rw[eF];cases hc:V.testBit i with
  |false=>simp
  |true=>rw[h i hc];rfl
 rw[<-this];exact jv
def cmpB(b:Bk)(h:Nat):Bool:=std b h&&(ao (2^b.banes.length)).all λk => !(std b k&&insB h k)||k==h
def cmpL(b:Bk)(l:Nat):List Nat:=(ao (2^b.banes.length)).filter λh=>cmpB b h&&insB l h
def Qew:cmpB b h=true↔std b h=true/\∀k,k<2^b.banes.length->std b k=true->insB h k=true->k=h:=by
 delta cmpB;rw[aN,bf];refine and_congr_right λ_=>⟨λq k h1 h2 f=>?_,λq k j=>?_⟩
 .have:=q k (a7.mpr h1);rw[h2,f]at this;simpa using this
 .cases h2:std b k with
  |false=>rfl
  |true =>
   cases f:insB h k with
   |false=>rfl
   |true=>simpa using q k (a7.mp j) h2 f
def cmp_in(f:h<2^b.banes.length)(l:std b h=true):∃c,c<2^b.banes.length/\cmpB b c=true/\insB h c=true:=by
 induction hd:2^b.banes.length-h using mB generalizing h with
 |_ d j =>
  by_cases hc:∃k,k<2^b.banes.length/\std b k=true/\insB h k=true/\k≠h
  .obtain⟨k,k1,k2,k3,H⟩:=hc;have:=Qgt (QZ.mp k3);obtain⟨c,B,D,E⟩:=j (2^b.banes.length-k) (by lia) k1 k2 rfl;exact⟨c,B,D,QZ.mpr λw hw=>QZ.mp E w (QZ.mp k3 w hw)⟩
  .refine⟨h,f,Qew.mpr ⟨l,λk k1 k2 k3=>?_⟩,QZ.mpr λ_ z=>z⟩;exact cE λz=>hc ⟨k,k1,k2,k3,z⟩
def mem_cmpL:h∈cmpL b l↔h<2^b.banes.length/\cmpB b h=true/\insB l h=true:=by
 delta cmpL;rw[bc,a7,aN]
def Qev(ok:b.Ok) l:(cmpL b l).length<=256:=by
 have:=bM (λh=>cmpB b h&&insB l h) (ao (2^b.banes.length));rw[am]at this;have:=pow8 ok.g8;delta cmpL;lia
def cmp_step(h:pre++x::post=(ao (2^b.banes.length)).reverse) :
  x<2^b.banes.length/\(!((pre.filter (cmpB b)).any λc=>insB x c)&&std b x)=cmpB b x:=by
 have f :=by
  have:=congrArg List.reverse h;simpa using this
 obtain⟨e1,e2⟩:=QlY f;have I:∀y,y∈pre->x<y/\y<2^b.banes.length:=λy D=>by
  have pw:(post.reverse++x::pre.reverse).Pairwise (· < ·):=by rw[f];exact eh
  have q:=(fO.mp pw).2.1;refine⟨(cx.mp q).1 y (by simpa using D),?_⟩;have:y∈ao (2^b.banes.length):=by rw[<-f];simp[D]
  exact a7.mp this
 have J:∀y,x<y->y<2^b.banes.length->y∈pre:=λy h1 h2=>by
  have:y∈post.reverse++x::pre.reverse:=by rw[f];exact a7.mpr h2
  rw[e1]at this;rcases aP.mp this with z | z
  .have:=a7.mp z;lia
  .rcases ap.mp z with z | z
   .lia
   .simpa using z
 refine⟨e2,?_⟩;rw[dH,aN,gF,fw,Qew];constructor
 .rintro⟨k1,k2⟩;refine⟨k2,λk h1 h2 E=>cE λL=>?_⟩;obtain⟨c,j,l,H⟩:=cmp_in h1 h2;have l1:=Qgt (QZ.mp E);have l2:=Qgt (QZ.mp H);exact k1 c (bc.mpr ⟨J c (by lia) j,l⟩) (QZ.mpr λw hw=>QZ.mp H w (QZ.mp E w hw))
 .rintro⟨k1,k2⟩;refine⟨λc hc B=>?_,k1⟩;obtain⟨j,l⟩:=bc.mp hc;obtain⟨p1,p2⟩:=I c j;have:=k2 c p2 (Qew.mp l).1 B;lia
def rg3_n(h:a<=100000):rg3K (pN a) (.int (-((1:Nat)))) (.int (-((1:Nat))))=some (encN (ao (a+1)).reverse):=by
 have h1:rOk (a)=true:=Qkd (by lia) (by lia);have h2:rOk (-(1))=true:=Qkd (by lia) (by lia);show(if (-1) = -1/\rOk (a)=true/\rOk (-(1))=true then some (rngD a (-(1))) else none)=_;rw[au ⟨rfl,h1,h2⟩];congr 1;delta rngD encN;refine gY (by simp) λi h1 h2=>?_;simp at h1 h2;simp[pN];lia
def ev_iRg3 l B D f:iRg3 l B D f=(l f).bind λp=>(B f).bind λq=>(D f).bind λr=>rg3K p q r:=rfl
def pRev_n xs:pRev [.lst (encN xs)]=some (encN xs.reverse):=by show some (encN xs).reverse=_;delta encN;rw[ji]
local macro_rules|`(tactic| walk_at "ev")=>`(tactic| try simp (disch:=fail"e") only[EVb,e_inside,ev_iRg3,pRev_n,rg3_n,EVl])
def Qlu{b:Bk}(ok:b.Ok) l:Qbl [b.enc,pN l]=some (.tup (encN (cmpL b l))):=by
 have J:=ok.g8;have T:=ic b.banes.length;have L:=pow8 J;delta Qbl d_camps;walk_at "ev";rw[Qbe ok];walk_at "ev";rw[show 2^b.banes.length-1+1=2^b.banes.length by lia];obtain⟨M,e,s3,s4,rfl⟩:=ZL (g:=gSet 3) (b:=QeC) pN (λpre E=>∃s3 s4,E=[.fz b.enc,.fz (pN l),.ow (encN (pre.filter (cmpB b))),s3,s4])
  (ao (2^b.banes.length)).reverse (ao (2^b.banes.length)).reverse [] [.fz b.enc,.fz (pN l),.ow (encN []),.un,.un] rfl ⟨.un,.un,rfl⟩ (by
   rintro pre j post E B ⟨s3,s4,rfl⟩;obtain⟨hj,f⟩:=cmp_step B;have hl:(pre.filter (cmpB b)).length<=256:=by
    have h1:=bM (cmpB b) pre;have h2:=congrArg ee B;simp at h2;lia
   refine⟨_,_,rfl,?_,.fz (pN j),.fz (.bl ((pre.filter (cmpB b)).any λc=>insB j c)),rfl⟩;rw[List.filter_append];generalize pre.filter (cmpB b)=D at *;delta QeC;walk_at "ev";rw[show encN D=D.map pN from rfl,Ql pN (λc=>PV.bl (insB j c)) D λc hc=>⟨_,rfl,by walk_at "ev"⟩];rw[show(D.map λc=>PV.bl (insB j c))=(D.map λc=>insB j c).map PV.bl by rw[aH];rfl];walk_at "ev";rw[pAnyB_l,f9,show(id∘λc=>insB j c)=λc=>insB j c from rfl];walk_at "ev";rw[show D.map pN=encN D from rfl];cases H:D.any (λc=>insB j c) with
   |true =>
    rw[H]at f;rw[dF (by rw[<-f];simp)];walk_at "ev";simp
   |false =>
    rw[H]at f;walk_at "ev";rw[e_stands ok];walk_at "ev";cases I:std b j with
    |true =>
     rw[I]at f;rw[d7 (by rw[<-f];rfl)];walk_at "ev";rw[Zt (by rw[encN_len];lia) rfl];walk_at "ev";simp[encN]
    |false =>
     rw[I]at f;rw[dF (by rw[<-f];simp)];walk_at "ev";simp)
 rw[show([]:List PV)=encN [] from rfl,show encN (ao (2^b.banes.length)).reverse=(ao (2^b.banes.length)).reverse.map pN from rfl,e];walk_at "ev";have O:(kX (cmpB b) (ao (2^b.banes.length)).reverse).length<=256:=by
  have:=bM (cmpB b) (ao (2^b.banes.length)).reverse;rw[eT,am]at this;lia
 rw[show(encN (kX (cmpB b) (ao (2^b.banes.length)).reverse)).reverse=encN (kX (cmpB b) (ao (2^b.banes.length)).reverse).reverse by delta encN;rw[ji],cmpK_ok (by rw[encN_len,eT];lia)];rw[compNF (λc=>insB l c) _ λc hc=>⟨_,rfl,by walk_at "ev",by walk_at "ev"⟩];walk_at "ev";rw[<-List.filter_reverse,kT,List.filter_filter];delta cmpL;congr 4;funext h;rw[Bool.and_comm]
def Qde(h:s1 l t=some (.nx f t')):xSeq s1 s2 l t=s2 f t':=by
 delta xSeq;rw[h];rfl
def xq_lift(h:m l=some (.nx f))(hj:Zo f j=Zo l j):QjN j m l t=some (.nx f t):=by
 delta QjN;rw[h];show(if Zo f j=Zo l j then some (OutX.nx f t) else none)=_;rw[au hj]
def xq_meth(h1:B f=some qs)(h2:Zo f j=some a)(D:l t=true)(I:g a qs t=some t'):QjM j ms l g B f t=some (.nx (frz ms f) t'):=by
 delta QjM;rw[h1,a9,h2,a9,au D,I];rfl
def Qgr(h:m l=some r)(B:putT f r t=some t'):Qao ms f m l t=some (.nx (frz ms l) t'):=by
 delta Qao;rw[h,a9,B];rfl
def ev_mFld C f m l:mFld C f m l=(m l).bind (fldK C f):=rfl
def mthK(C:Addr)(f:Str)(g:List PV->Option PV)(o:Option (List PV))(q:PV):Option PV:=if isC C f q=true then o.bind λps=>g (q::ps) else none
def ev_mMeth C f g m B l:Qhz C f g m B l=(m l).bind (mthK C f g (B l)):=rfl
def RU(b:Bk)(c w:Nat):Nat:=gD λU=>QD [b.enc,pN c,pN w]=some (pN U)/\(∀g,U.testBit g=true->c.testBit g=true)/\IsRs b w U
def RU_ok(ok:b.Ok)(hc:c<2^b.banes.length)(hw:w<b.words)(f:(yl b c).testBit w=true) :
  QD [b.enc,pN c,pN w]=some (pN (RU b c w))/\(∀g,(RU b c w).testBit g=true->c.testBit g=true)/\IsRs b w (RU b c w) :=
 fy (QdK ok hc hw f)
def aRV(b:Bk)(w c:Nat):PV:=if (yl b c).testBit w=true then pN (RU b c w) else .non
def e_ar(ok:b.Ok)(hc:c<2^b.banes.length)(hw:w<b.words):QD [b.enc,pN c,pN w]=some (aRV b w c):=by
 delta aRV;cases f:(yl b c).testBit w with
 |true=>exact(RU_ok ok hc hw f).1
 |false=>exact Qdp ok hw f
def aRV_N b w c:isN (aRV b w c) = !(yl b c).testBit w:=by
 delta aRV;cases (yl b c).testBit w<;>rfl
def aRV_flat b w c:flat (aRV b w c)=true:=by
 delta aRV;cases (yl b c).testBit w<;>rfl
def prV(b:Bk)(w c:Nat):PV := .tup [pN c,aRV b w c]
def QdO(h1:l f=some (.opq a::rs))(h2:Zo f j=some a)(B:g a rs t=some t'):QeE j ms g l f t=some (.nx (frz ms f) t'):=by
 delta QeE;rw[h1,a9,h2,a9];show((if a=a then g a rs t else none).map _)=_;rw[au rfl,B];rfl
def runX3' m a p q (t:f):runX 3 3 m a [p,q] t=(m [.fz (.opq a),.fz p,.fz q] t).bind outX:=rfl
def runX2' m a p (t:f):runX 2 2 m a [p] t=(m [.fz (.opq a),.fz p] t).bind outX:=rfl
def runX5' m a p q r s (t:f):runX 5 5 m a [p,q,r,s] t=(m [.fz (.opq a),.fz p,.fz q,.fz r,.fz s] t).bind outX:=rfl
def Qnw a p q:QU a [p,q] ⟨[],[],none⟩=some ⟨["word","name"],[p,q],none⟩:=by
 rfl
def Qmx a p q:QV a [p,q] ⟨[],[],none⟩=some ⟨["word","name","reason"],[p,.str "settled",q],none⟩:=by
 delta QV;rw[runX3',Qde (QdO rfl rfl (Qnw a p (.str "settled")))];rfl
def i_sure a p q:ZH a [p,q] ⟨[],[],none⟩=some ⟨["word","name","pairs"],[p,.str "sure",q],none⟩:=by
 delta ZH;rw[runX3',Qde (QdO rfl rfl (Qnw a p (.str "sure")))];rfl
def i_never a p:Zq a [p] ⟨[],[],none⟩=some ⟨["word","name"],[p,.str "never"],none⟩:=by
 delta Zq;rw[runX2',QdO rfl rfl (Qnw a p (.str "never"))];rfl
def i_maybe a p q r s:Zr a [p,q,r,s] ⟨[],[],none⟩=some ⟨["word","name","camp","reason","other"],[p,.str "maybe",q,r,s],none⟩:=by
 delta Zr;rw[runX5',Qde (QdO rfl rfl (Qnw a p (.str "maybe")))];rfl
def QeV(h1:f l=some qs)(h2:∀a,g a qs ⟨[],[],none⟩=some ⟨ks,ps,none⟩):mNew C g f l=some (.obj C ks ps):=by
 delta mNew;rw[h1,a9,QlC h2];rfl
def ylds(b:Bk)(w:Nat):List Nat:=(cmpL b 0).filter λc=>(yl b c).testBit w
def nots(b:Bk)(w:Nat):List Nat:=(cmpL b 0).filter λc => !(yl b c).testBit w
def Qcb(C:Nat->Addr)(w U:Nat):PV := .obj (C 1) ["word","name","reason"] [pN w,.str "settled",pN U]
def oSure(C:Nat->Addr)(w:Nat)(ps:List PV):PV := .obj (C 2) ["word","name","pairs"] [pN w,.str "sure",.tup ps]
def QgW(C:Nat->Addr)(w c U d:Nat):PV := .obj (C 3) ["word","name","camp","reason","other"] [pN w,.str "maybe",pN c,pN U,pN d]
def Qkh(C:Nat->Addr)(w:Nat):PV := .obj (C 4) ["word","name"] [pN w,.str "never"]
def lotV(C:Nat->Addr)(b:Bk)(m w:Nat):PV :=
 if (yl b (it b m)).testBit w=true then Qcb C w (RU b (it b m) w) else if (nots b w).isEmpty=true then oSure C w ((ylds b w).map (prV b w)) else if (ylds b w).isEmpty=true then Qkh C w
 else QgW C w ((ylds b w).getD 0 0) (RU b ((ylds b w).getD 0 0) w) ((nots b w).getD 0 0)
def prV_ix0 b w c:pIx (prV b w c) (pN 0)=some (pN c):=rfl
def prV_ix1 b w c:pIx (prV b w c) (pN 1)=some (aRV b w c):=rfl
def enc_emp xs:(encN xs).isEmpty=xs.isEmpty:=by cases xs<;>rfl
def map_emp(f:Nat->PV)(xs:List Nat):(xs.map f).isEmpty=xs.isEmpty:=by cases xs<;>rfl
local macro_rules|`(tactic| walk_at "ev")=>`(tactic| try simp (disch:=fail"e") only[enc_ix0,enc_ix1,enc_ix2,flat_benc,prV_ix0,prV_ix1,aRV_N,aRV_flat,EVl])
def e_lot C {b:Bk} (ok:b.Ok) {w m:Nat} (hw:w<b.words) (hl:Last b m):Qnj C [b.enc,pN w]=some (lotV C b m w):=by
 obtain⟨O,J,f,_⟩:=QcM ok;have:=hl.unique f;subst this;have E:=Qev ok 0;delta Qnj lotV;walk_at "ev";rw[J];walk_at "ev";rw[e_ar ok (it_lt b m) hw];walk_at "ev";cases L:(yl b (it b m)).testBit w with
 |true =>
  walk_at "ev";rw[QeV (qs:=[pN w,aRV b w (it b m)]) (by walk_at "ev") (λa=>Qmx a _ _)];walk_at "ev";delta aRV Qcb;rw[L];rfl
 |false =>
  walk_at "ev";rw[Qlu ok];walk_at "ev";rw[Qdl (prV b w) (cmpL b 0) λc hc=>⟨_,rfl,by
   walk_at "ev";rw[e_ar ok (mem_cmpL.mp hc).1 hw];walk_at "ev";rfl⟩]
  have j:∀kk:Bool,Qx kk [0,0,1] [mQ.fz b.enc,.fz (pN w),.fz (aRV b w (it b m)),.un,.un,.un]=[mQ.fz b.enc,.fz (pN w),.fz (aRV b w (it b m)),.un,.un,.un]:=λkk=>by cases kk<;>rfl
  rw[eX,j];walk_at "ev";rw[YW (prV b w) (λc=>(yl b c).testBit w) (prV b w) (cmpL b 0) λc hc=>⟨_,rfl,by
   walk_at "ev";rw[ku],λ_=>by walk_at "ev"⟩]
  obtain⟨s3,B,D⟩:∃s3 ,s3.val=some (.lst ((cmpL b 0).map (prV b w)))/\Qx ((((cmpL b 0).filter λc=>(yl b c).testBit w).map (prV b w)).all flat) [3] [mQ.fz b.enc,.fz (pN w),.fz (aRV b w (it b m)),.ow ((cmpL b 0).map (prV b w)),.un,.un]=[mQ.fz b.enc,.fz (pN w),.fz (aRV b w (it b m)),s3,.un,.un]:=by
   cases (((cmpL b 0).filter λc=>(yl b c).testBit w).map (prV b w)).all flat with
   |true=>exact⟨_,rfl,rfl⟩
   |false=>exact⟨_,rfl,rfl⟩
  rw[eX,D];walk_at "ev";rw[B];walk_at "ev";rw[YW (prV b w) (λc => !(yl b c).testBit w) pN (cmpL b 0) λc hc=>⟨_,rfl,by walk_at "ev",λ_=>by walk_at "ev"⟩];rw[show((cmpL b 0).filter λc => !(yl b c).testBit w).map pN=encN (nots b w) from rfl,show((cmpL b 0).filter λc=>(yl b c).testBit w)=ylds b w from rfl];walk_at "ev";rw[ku,enc_emp];cases H:(nots b w).isEmpty with
  |true =>
   walk_at "ev";rw[QeV (qs:=[pN w,.tup ((ylds b w).map (prV b w))]) (by walk_at "ev") (λa=>i_sure a _ _)];walk_at "ev";rfl
  |false =>
   walk_at "ev";rw[ku,map_emp];cases l:(ylds b w).isEmpty with
   |true =>
    walk_at "ev";rw[QeV (qs:=[pN w]) (by walk_at "ev") (λa=>i_never a _)];walk_at "ev";rfl
   |false =>
    obtain⟨c,cs,I⟩:∃c cs,ylds b w=c::cs:=by
     cases h:ylds b w with
     |nil=>rw[h]at l;cases l
     |cons c cs=>exact⟨c,cs,rfl⟩
    obtain⟨d,ds,M⟩:∃d ds,nots b w=d::ds:=by
     cases h:nots b w with
     |nil=>rw[h]at H;cases H
     |cons c cs=>exact⟨c,cs,rfl⟩
    have hc:(yl b c).testBit w=true:=by
     have:c∈ylds b w:=by rw[I];simp
     delta ylds at this;exact(bc.mp this).2
    rw[I,M];walk_at "ev";rw[QeV (qs:=[pN w,pN c,aRV b w c,pN d]) (by walk_at "ev") (λa=>i_maybe a _ _ _ _)];walk_at "ev";delta aRV QgW;rw[hc];rfl
abbrev Four(C:Nat->Addr):Prop:=([C 1,C 2,C 3,C 4]:List Addr).Nodup
def four_ne{C:Nat->Addr}(h:Four C):(C 1==C 2)=false/\(C 1==C 3)=false/\(C 1==C 4)=false/\(C 2==C 1)=false/\(C 2==C 3)=false/\(C 2==C 4)=false/\(C 3==C 1)=false/\(C 3==C 2)=false/\(C 3==C 4)=false/\(C 4==C 1)=false/\(C 4==C 2)=false/\(C 4==C 3)=false:=by
 delta Four at h;simp only[bO,ap,ml,or_false,not_or,List.nodup_nil,and_true,not_false_eq_true]at h;obtain⟨⟨a,b,c⟩,⟨d,e⟩,f⟩:=h;simp only[aW];exact⟨a,b,c,Ne.symm a,d,e,Ne.symm b,Ne.symm d,f,Ne.symm c,Ne.symm e,Ne.symm f⟩
def ev_mFldS(Cs:List Addr)(f:Str)(m:MEx)(l:PEnv):QbF Cs f m l=(m l).bind (fldS Cs f):=rfl
def Qax(C:Nat->Addr){D:Addr}(l:D∈[C 1,C 2,C 3,C 4]){ks:List Str}{ps:List PV}{s:PV}{f:Str}(hl:((ks.zip ps).lookup f)=some s):fldS [C 1,C 2,C 3,C 4] f (.obj D ks ps)=some s:=by
 show(if ([C 1,C 2,C 3,C 4]:List Addr).contains D=true then (ks.zip ps).lookup f else none)=_;rw[au (by simpa using l),hl]
def Gd_b(s:Str):Prop:=s.length<=20/\ar s=true
def nmZ(ss:List Str)(k:Nat):Str:=ss.getD k ""
def nmZ_get{ss:List Str}{k:Nat}(h:k<ss.length):(ss.map PV.str)[k]?=some (.str (nmZ ss k)):=by simp[nmZ,h]
def Qbo{ss:List Str}{k:Nat}(h:k<ss.length):nmZ ss k∈ss:=by simp[nmZ,h]
def jnZ(ss:List Str)(f:List Nat):Str:=a5 " " (f.map (nmZ ss))
def shS(ss:List Str)(m:Nat):Str:=("{":Str)++jnZ ss (plN m)++("}":Str)
def Qdg{m n:Nat}(h:m<2^n):∀k∈plN m,k<n:=λk f=>mf λq=>by
 have z:=Qas.mp f;rw[hJ (aF h (dY (by decide) q))]at z;cases z
def bits_plZ{m n:Nat}(h:m<2^n):((ao n).filter λk=>m.testBit k)=plN m:=by
 refine asc_eq (fR _ eh) (plN_asc m) λk=>?_;rw[bc,Qas,a7];exact⟨λz=>z.2,λz=>⟨Qdg h k (Qas.mpr z),z⟩⟩
def Qih{m n:Nat}(h:m<2^n):(plN m).length<=n:=by
 rw[<-bits_plZ h];have:=bM (λk=>m.testBit k) (ao n)
 rwa [am]at this
def QkZ{ss:List Str}{f:List Nat}(l:∀s∈ss,Gd_b s)(hr:∀k∈f,k<ss.length):((f.map (nmZ ss)).map cw).sum<=f.length*20:=by
 have:=Xw (f.map (nmZ ss)) 20 λs j=>by
  obtain⟨k,B,rfl⟩:=aU.mp j;exact(l _ (Qbo (hr k B))).1
 rwa [ai]at this
def Qla{ss:List Str}{f:List Nat}(l:∀s∈ss,Gd_b s)(hr:∀k∈f,k<ss.length):(jnZ ss f).length<=f.length*21:=by
 delta jnZ;rw[Qy];have:=QkZ l hr;simp only[ai,show(" ":Str).length=1 from rfl]at *;lia
def QdP{ss:List Str}{m:Nat}(hl:ss.length<=30)(f:∀s∈ss,Gd_b s)(hm:m<2^ss.length):(shS ss m).length<=700:=by
 delta shS;have h1:=Qla f (Qdg hm);have h2:=Qih hm;rw[Zb,Zb,show("{":Str).length=1 from rfl,show("}":Str).length=1 from rfl];lia
def Qdf{ss:List Str}{m:Nat}(f:∀s∈ss,Gd_b s)(hm:m<2^ss.length):ar (shS ss m)=true:=by
 delta shS jnZ;refine Xu (Xu (by decide+kernel) (QaG _ (by decide+kernel) _ λs j=>?_)) (by decide+kernel);obtain⟨k,l,rfl⟩:=aU.mp j;exact(f _ (Qbo (Qdg hm k l))).2
local macro_rules|`(tactic| walk_at "ev")=>`(tactic| try simp (disch:=fail"e") only[EVb,tr_get,tr_flat,tr_set,e_cell,pNe_nil',pAdd_ni,pAdd_in,nmZ_get,testBit_one,EVl])
def XS{ss:List Str}{m:Nat}(hl:ss.length<=30)(f:∀s∈ss,Gd_b s)(hm:m<2^ss.length):QJ [.tup (ss.map .str),pN m]=some (.str (shS ss m)):=by
 have h0:=Qih hm;unfold QJ;walk_at "ev";rw[QcN (show ss.length<=60 by lia) hm];walk_at "ev";rw[Qdl (λk=>PV.str (nmZ ss k)) (plN m) λk j=>⟨_,rfl,by have:=Qdg hm k j;walk_at "ev"⟩];rw[show(plN m).map (λ(k:Nat)=>PV.str (nmZ ss k))=((plN m).map (nmZ ss)).map PV.str by rw[aH];rfl];have h1:=Qla f (Qdg hm);have h2:=Zb ("{":Str) (jnZ ss (plN m));have l:("{":Str).length=1:=rfl;have B:("}":Str).length=1:=rfl;have D:=QkZ f (Qdg hm);walk_at "ev";rw[L2.PM.pJoin_s (by
  simp only[ai,show(" ":Str).length=1 from rfl]at *;exact Zh (by lia))]
 unfold shS jnZ at *;walk_at "ev"
def shP(ss:List Str)(x:Nat×Nat):Str:=shS ss x.1++(" ":Str)++shS ss x.2
def shP_ok{ss:List Str}{x:Nat×Nat}(f:∀s∈ss,Gd_b s)(h1:x.1<2^ss.length)(h2:x.2<2^ss.length):ar (shP ss x)=true:=Xu (Xu (Qdf f h1) (by decide+kernel)) (Qdf f h2)
def Qnm(x:Nat×Nat):PV := .tup [pN x.1,pN x.2]
local macro_rules|`(tactic| walk_at "ev")=>`(tactic| try simp (disch:=fail"e") only[EVb,tr_get,tr_flat,tr_set,e_cell,pNe_nil',pAdd_ni,pAdd_in,ev_mFldS,runO_2',outO_ro',EVl])
def Qls{ss:List Str}{c U:Nat}(hl:ss.length<=30)(f:∀s∈ss,Gd_b s)(h1:c<2^ss.length)(h2:U<2^ss.length):Ye [.tup (ss.map .str),pN c,pN U]=some (.str (shP ss (c,U))):=by
 have a:=QdP hl f h1;have b:=QdP hl f h2;have l1:=Zb (shS ss c) " ";have l2:(" ":Str).length=1:=rfl;delta Ye;walk_at "ev";rw[XS hl f h1];walk_at "ev";rw[XS hl f h2];walk_at "ev";rfl
def Asc(s:Str):Prop:=∀c∈s.cps.toList,c<128
def YK{s:Str}(h:Asc s):ar s=true:=by
 delta ar;rw[gy];intro c hc;have:=h c (by simpa using hc);simp;lia
def Qne(h:Asc s):(s.cps.all (· < 128))=true:=by
 rw[gy];intro c hc;have:=h c (by simpa using hc);simp;omega
def asc_app{a b:Str}(h1:Asc a)(h2:Asc b):Asc (a++b):=λc hc=>by
 have hc:c∈(a.cps++b.cps).toList:=hc;rw[fW]at hc;rcases aP.mp hc with z | z
 .exact h1 c z
 .exact h2 c z
def lowB(s:Str):Bool:=s.cps.toList.all λc=>decide (97<=c)&&decide (c<=122)
def wdB(s:Str):Bool := !no3.any (·==s)&&(decide (1<=s.length)&&(decide (s.length<=12)&&lowB s))
def QkQ{s:Str}(h:Asc s):pIn (.str s) (.tup [.str "guess",.str "unless",.str "if"])=some (.bl (no3.any (·==s))):=by
 show pIn (.str s) (.tup (no3.map .str))=_;rw[Qdh (YK h) ok3]
def sLe_a_b(c:Nat):sLe "a" ⟨#[c]⟩=decide (97<=c):=by
 delta sLe;rw[show("a":Str).cps.toList=[97] by decide+kernel];show(!decide ([c]<[97]))=_;rw[gt,gQ];by_cases h:97<=c
 .simp[h]<;>lia
 .simp[h]<;>lia
def sLe_z_b(c:Nat):sLe ⟨#[c]⟩ "z"=decide (c<=122):=by
 delta sLe;rw[show("z":Str).cps.toList=[122] by decide+kernel];show(!decide ([122]<[c]))=_;rw[gt,gQ];by_cases h:c<=122
 .simp[h]<;>lia
 .simp[h]<;>lia
def Qlc(h:Asc s):itX (.str s)=some (Xs s):=au (Qne h)
local macro_rules|`(tactic| walk_at "ev")=>`(tactic| try simp (disch:=fail"e") only[pLen_sn,ev_iStr,pLeS_s,signs_len,EVl])
def QhJ{s:Str}(h:Asc s)(hl:s.length<=9000):QW [.str s]=some (.bl (wdB s)):=by
 delta QW wdB;walk_at "ev";rw[QkQ h];walk_at "ev";cases j:no3.any (·==s) with
 |true=>walk_at "ev";try rfl
 |false =>
  walk_at "ev";by_cases h1:1<=s.length
  .rw[a8 h1];walk_at "ev";by_cases h2:s.length<=12
   .rw[a8 h2];walk_at "ev";rw[Qlc h];walk_at "ev";delta Xs;rw[Ql (λc:Nat=>PV.str ⟨#[c]⟩) (λc=>PV.bl (decide (97<=c)&&decide (c<=122))) _ λc hc=>⟨_,rfl,by
     walk_at "ev";rw[sLe_a_b];by_cases f:97<=c
     .rw[a8 f];walk_at "ev";rw[sLe_z_b];try rfl
     .rw[aX f];walk_at "ev";try rfl⟩]
    rw[show(s.cps.toList.map λc=>PV.bl (decide (97<=c)&&decide (c<=122)))=(s.cps.toList.map λc=>decide (97<=c)&&decide (c<=122)).map PV.bl by rw[aH];rfl];walk_at "ev";rw[QdU,dM];rfl
   .rw[aX h2];walk_at "ev"
    try rfl
  .rw[aX h1];walk_at "ev"
   try rfl
def abc_in:∀c:_root_.Fin 128,(!(!(iz ("abcdefghijklmnopqrstuvwxyz":Str) ⟨#[(c:Nat)]⟩ 0 ("abcdefghijklmnopqrstuvwxyz":Str).length 1).isEmpty)) = !(decide (97<=(c:Nat))&&decide ((c:Nat)<=122)):=by decide+kernel
def Qfv{c:Nat}(h:c<128):Qgz (.str ⟨#[c]⟩) (.str "abcdefghijklmnopqrstuvwxyz")=some (.bl (!(decide (97<=c)&&decide (c<=122)))):=by
 have:=abc_in ⟨c,h⟩;dsimp only at this;show some (PV.bl _)=_;rw[this]
theorem QaL{α:Type}{g:PV->PEnv->Option PEnv}{b:MSt}(f:α->PV)(P:α->Bool)(p:PV)(I:PEnv->Prop):∀(xs:List α)(l:PEnv),I l->(∀x∈xs,∀l,I l->∃γ1,g (f x) l=some γ1/\(P x=true->∃γ2,b γ1=some (.nx γ2)/\I γ2)/\(P x=false->b γ1=some (.rt p))) ->
  (xs.all P=true->∃B,forL g b (xs.map f) l=some (.nx B)/\I B)/\(xs.all P=false->forL g b (xs.map f) l=some (.rt p))
 |[],l,h,_=>⟨λ_=>⟨l,rfl,h⟩,λz=>by simp at z⟩
 |x::xs,l,h,st=>by
  obtain⟨γ1,e1,y,n⟩:=st x (by simp) l h;cases j:P x with
  |true =>
   obtain⟨γ2,e2,h2⟩:=y j;have D:=QaL f P p I xs γ2 h2 λz hz=>st z (by simp[hz]);have e:forL g b ((x::xs).map f) l=forL g b (xs.map f) γ2:=by
    rw[ba];conv=>lhs;unfold forL
    rw[e1,a9,e2];rfl
   rw[e,fL,j,gL];exact D
  |false =>
   have e:forL g b ((x::xs).map f) l=some (.rt p):=by
    rw[ba];conv=>lhs;unfold forL
    rw[e1,a9,n j];rfl
   rw[e,fL,j,jM];exact⟨λz=>(by cases z),λ_=>rfl⟩
def QdH{s:Str}(h:Asc s)(hl:s.length<=9000):Xk [.str s]=some (.bl (wdB s)):=by
 delta Xk wdB;walk_at "ev";rw[QkQ h];walk_at "ev";cases D:no3.any (·==s) with
 |true=>walk_at "ev";try rfl
 |false =>
  walk_at "ev";rw[Qlc h];walk_at "ev";delta Xs;obtain⟨y,n⟩:=QaL (g:=gSet 1) (b:=YM) (λc:Nat=>PV.str ⟨#[c]⟩) (λc=>decide (97<=c)&&decide (c<=122)) (.bl false) (λf=>∃s1,f=[.fz (.str s),s1]) s.cps.toList [.fz (.str s),.un] ⟨_,rfl⟩ (by
   rintro c hc f ⟨s1,rfl⟩;refine⟨_,rfl,λz=>⟨_,?_,.fz (.str ⟨#[c]⟩),rfl⟩,λz=>?_⟩
   .delta YM;walk_at "ev";rw[Qfv (h c hc),z];walk_at "ev"
   .delta YM;walk_at "ev";rw[Qfv (h c hc),z];walk_at "ev")
  have l:lowB s=s.cps.toList.all λc=>decide (97<=c)&&decide (c<=122):=rfl;rw[l];cases j:s.cps.toList.all λc=>decide (97<=c)&&decide (c<=122) with
  |true =>
   obtain⟨B,e,s1,rfl⟩:=y j;rw[e];walk_at "ev";by_cases h1:1<=s.length
   .rw[a8 h1];walk_at "ev";by_cases h2:s.length<=12
    .rw[a8 h2];walk_at "ev";try rfl
    .rw[aX h2];walk_at "ev";try rfl
   .rw[aX h1];walk_at "ev";try rfl
  |false =>
   rw[n j];walk_at "ev";simp
def AllA(ws:List Str):Prop:=∀s∈ws,Asc s/\s.length<=9000
def QmN{ws:List Str}(f:AllA ws):YO (gSet 0) QH (Qc QW (Qa (mVar 0) aNil)) [.un] (ws.map .str)=some ((ws.map wdB).map .bl):=by
 rw[Ql PV.str (λs=>PV.bl (wdB s)) _ λs j=>⟨_,rfl,by
  obtain⟨l,B⟩:=f s j;walk_at "ev";rw[QhJ l B]⟩]
 rw[aH];rfl
def Qdv(hl:L.length<=9000):YJ (.str L) [.str " "]=some ((cC L sp).map .str):=by
 show(if ((" ").length==0)=false/\L.length+2<=LIM then some ((cC L " ").map PV.str) else none)=_;rw[au ⟨rfl,Zh (by lia)⟩];rfl
theorem QbV{c:Nat}:∀{l w:List Nat},w∈splL c l->(∀d∈w,d∈l)/\w.length<=l.length
 |[],w,h=>by
  have:w=[]:=by simpa[splL] using h
  subst this;simp
 |d::l,w,h=>by
  unfold splL at h;split at h
  .rcases ap.mp h with rfl | h
   .simp
   .obtain⟨h1,h2⟩:=QbV h;exact⟨λe he=>ax _ (h1 e he),by simp;lia⟩
  .obtain⟨y,t,e⟩:=QcE c l;rw[e]at h;rcases ap.mp h with rfl | h
   .obtain⟨h1,h2⟩:=QbV (l:=l) (w:=y) (c:=c) (by rw[e];simp);refine⟨λe he=>?_,by simp;lia⟩;rcases ap.mp he with rfl | he
    .simp
    .exact ax _ (h1 e he)
   .obtain⟨h1,h2⟩:=QbV (l:=l) (w:=w) (c:=c) (by rw[e];simp[h]);exact⟨λe he=>ax _ (h1 e he),by simp;lia⟩
theorem Qed{c:Nat}:∀{l:List Nat},(splL c l).length<=l.length+1
 |[]=>by simp[splL]
 |d::l=>by
  have f:=Qed (c:=c) (l:=l);unfold splL;split
  .simp;omega
  .obtain⟨y,t,e⟩:=QcE c l;rw[e]at f |-;simp at f |-;lia
def QlU(h:Asc L)(hl:L.length<=900):AllA (cC L sp)/\(cC L sp).length<=1000/\0<(cC L sp).length:=by
 have j:L.cps.toList.length=L.length:=by simp[cw]
 rw[Qec];refine⟨λs f=>?_,?_,?_⟩
 .obtain⟨w,hw,rfl⟩:=aU.mp f;obtain⟨h1,h2⟩:=QbV hw;refine⟨λc hc=>h c (h1 c (by grind)),?_⟩;show w.toArray.size<=9000;grind
 .grind[Qed]
 .obtain⟨y,t,e⟩:=QcE 32 L.cps.toList;grind
abbrev gsR(R:List Rw):List Gp:=R.filterMap Rw.gp
abbrev rsR(R:List Rw):List Rp:=R.filterMap Rw.rp
abbrev nmR(R:List Rw):List Str:=nm (gsR R) (rsR R)
def bkR(R:List Rw):Bk:=⟨(nmR R).length,(srtG (gsR R)).map λp=>(nmR R).idxOf p.2,(ordR (GN (gsR R)) (rsR R)).map λp=>⟨(nmR R).idxOf p.1,p.2.map (nmR R).idxOf⟩⟩
def Qlw(R:List Rw):bkV (nmR R).idxOf (nmR R).length (srtG (gsR R)) (ordR (GN (gsR R)) (rsR R))=(bkR R).enc:=by
 delta bkV bkR Bk.enc;simp only[aH];rfl
def Qkk{f:List Gp}{rs:List Rp}{w:Str}(h:w∈nm f rs):w∈wds f rs:=by
 delta nm at h;rcases aP.mp h with h | h
 .have h:=(Qk _).mem_iff.mp h;obtain⟨p,j,rfl⟩:=aU.mp h;exact Qbp.mpr (.inl ⟨p,j,.inl rfl⟩)
 .have h:=(Qk _).mem_iff.mp h;exact QbP.mp (bc.mp h).1
def Qmh{R:List Rw}{M:List Str}(G:Gd R M):(nmR R).Nodup:=by
 refine gB.mpr ⟨(Qk _).nodup_iff.mpr G.gnd,(Qk _).nodup_iff.mpr ((XO _).filter _),λa f b j e=>?_⟩;subst e;have h1:=(Qk _).mem_iff.mp f;have h2:=(bc.mp ((Qk _).mem_iff.mp j)).2;exact bC h2 h1
def nmR_M{R:List Rw}{M:List Str}(G:Gd R M){w:Str}(h:w∈nmR R):w∈M:=by
 obtain⟨x,f,hw⟩:=fI.mp (QaJ.mpr (Qkk h));exact G.ws x f w hw
def Qcl{R:List Rw}{M:List Str}(G:Gd R M):(nmR R).length<=30:=aS (Qcj (Qmh G) λx f=>nmR_M G f) G.nM
def XJ(f:List Gp):(srtG f).length=f.length:=(YR f).length_eq
def Qkr{f:List Gp}{rs:List Rp}{w:Str}:(nm f rs).idxOf w<f.length↔w∈GN f:=by
 have hl:(QA (GN f)).length=f.length:=by rw[(Qk _).length_eq];delta GN;rw[ai]
 delta nm;rw[List.idxOf_append,<-hl];by_cases h:w∈QA (GN f)
 .rw[au h];exact⟨λ_=>(Qk _).mem_iff.mp h,λ_=>bE.mpr h⟩
 .rw[aK h];exact⟨λz=>by lia,λz=>absurd ((Qk _).mem_iff.mpr z) h⟩
theorem Qlg{N G:List Str}(B:N.Pairwise (ordN G)):∀{l:List Str},l.Pairwise (ordN G)->l.Nodup->(∀w∈l,w∈N)->(l.map N.idxOf).Pairwise (· < ·)
 |[],_,_,_=>.nil
 |x::l,h,D,hm=>by
  rw[ba];refine .cons (λj hj=>?_) (Qlg B (cx.mp h).2 (bO.mp D).2 λw hw=>hm w (by simp[hw]));obtain⟨y,f,rfl⟩:=aU.mp hj;have h1:=idx_le B (hm x (by simp)) (hm y (by simp[f])) ((cx.mp h).1 y f);refine Nat.lt_of_le_of_ne h1 λe=>?_;have e1:N[N.idxOf x]'(bE.mpr (hm x (by simp)))=x:=et _;have e2:N[N.idxOf y]'(bE.mpr (hm y (by simp[f])))=y:=et _;have:x=y:=by rw[<-e1,<-e2];simp only[e]
  subst this;exact(bO.mp D).1 f
def rp_ok{R:List Rw}{M:List Str}(G:Gd R M){p:Rp}(f:p∈rsR R):Wd p.1/\(∀s∈p.2,Wd s)/\p.2.Nodup/\p.2.length<=6:=G.rb f
def QbS{R:List Rw}{M:List Str}(G:Gd R M):(bkR R).Ok:=by
 have B:=Qcl G;refine⟨?_,?_,?_,?_,?_,?_,?_⟩
 .show((srtG (gsR R)).map _).length<=8;rw[ai,XJ];exact aS G.ng (by decide)
 .show((srtG (gsR R)).map _).length<=(nmR R).length;rw[ai,XJ];show _<=(QA (GN (gsR R))++_).length;rw[aO,(Qk _).length_eq];delta GN;rw[ai];lia
 .show(nmR R).length<=60;lia
 .show((ordR _ _).map _).length<=48;delta ordR;rw[ai,ai];exact aS G.nr (by decide)
 .intro x l;obtain⟨p,f,rfl⟩:=aU.mp l;exact bE.mpr (wds_g ((YR _).mem_iff.mp f)).2
 .intro r hr;obtain⟨p,f,rfl⟩:=aU.mp hr;obtain⟨q,j,rfl⟩:=aU.mp f;refine⟨?_,bE.mpr (QjO j).1⟩;show((srtG (gsR R)).map _).length<=(nmR R).idxOf q.1;rw[ai,XJ];exact mh λz=>G.hd q j (Qkr.mp z)
 .intro r hr;obtain⟨p,f,rfl⟩:=aU.mp hr;obtain⟨q,j,rfl⟩:=aU.mp f;have hm:∀w∈ordB (GN (gsR R)) q.2,w∈nmR R:=λw hw=>(QjO j).2 w ((XG _ _).mem_iff.mp hw);refine⟨Qlg (nm_ord _ _) (Qil _ _) ((XG _ _).nodup_iff.mpr (rp_ok G j).2.2.1) hm,λx l=>?_⟩;obtain⟨w,hw,rfl⟩:=aU.mp l;exact bE.mpr (hm w hw)
def bkR_g(R:List Rw):(bkR R).banes.length=(gsR R).length:=by
 show((srtG (gsR R)).map _).length=_;rw[ai,XJ]
def Rw.Ok.wd{x:Rw}(h:x.Ok):∀w∈x.ws,Wd w:=by
 cases x with
 |g a b=>intro w hw;simp[Rw.ws]at hw;exact hw.elim (λe=>e▸h.1) λe=>e▸h.2
 |r f b=>intro w hw;simp[Rw.ws]at hw;exact hw.elim (λe=>e▸h.1) λe=>h.2.1 _ e
def Qkl{R:List Rw}{M:List Str}(G:Gd R M):∀w∈nmR R,Wd w:=λw h=>by
 obtain⟨x,f,hw⟩:=fI.mp (QaJ.mpr (Qkk h));exact(G.ok x f).wd w hw
def QbH(x:Str)(ps:List Str):Bool :=
 if (x=="why")=true then (ps.length==1||(decide (2<ps.length)&&(ps.getD 1 ""=="by"))) else if (x=="lot")=true then ps.length==1 else if (["ranks","book"]:List Str).any (·==x)=true then ps.length==0 else (["flaw","camps"]:List Str).any (·==x)
def Qu(x:Str)(ps:List Str):List Str:=if (["lot","why"]:List Str).any (·==x)=true then ps.take 1 else []
noncomputable def Qn(x:Str)(ps:List Str):List Str:=if (x=="why")=true then ps.drop 2 else if (["flaw","camps"]:List Str).any (·==x)=true then ps else []
def pIn_rb{s:Str}(h:Asc s):pIn (.str s) (.tup [.str "ranks",.str "book"])=some (.bl ((["ranks","book"]:List Str).any (·==s))):=Qdh (ss:=["ranks","book"]) (YK h) (by decide+kernel)
def pIn_fc{s:Str}(h:Asc s):pIn (.str s) (.tup [.str "flaw",.str "camps"])=some (.bl ((["flaw","camps"]:List Str).any (·==s))):=Qdh (ss:=["flaw","camps"]) (YK h) (by decide+kernel)
def pIn_lw{s:Str}(h:Asc s):pIn (.str s) (.tup [.str "lot",.str "why"])=some (.bl ((["lot","why"]:List Str).any (·==s))):=Qdh (ss:=["lot","why"]) (YK h) (by decide+kernel)
def YH{a b:Str}(f:Asc a)(l:ar b=true):pEq (.str a) (.str b)=some (.bl (a==b)):=Xt (YK f) l
def QeU:ar ("why":Str)=true:=by decide+kernel
def Qkg:ar ("lot":Str)=true:=by decide+kernel
def ok_by:ar ("by":Str)=true:=by decide+kernel
def QkT:ar ("flaw":Str)=true:=by decide+kernel
def Qip:ar ("ranks":Str)=true:=by decide+kernel
def Qiq:ar ("camps":Str)=true:=by decide+kernel
local macro_rules|`(tactic| walk_at "ev")=>`(tactic| try simp (disch:=fail"e") only[EVs])
def QjC{x:Str}{ps:List Str}(f:AllA (x::ps))(hl:ps.length<=900):Qae [.lst (.str x::ps.map .str)]=some (.bl (QbH x ps)):=by
 have j:=(f x (by simp)).1;delta Qae QbH;walk_at "ev";rw[Nat.add_sub_cancel,YH j QeU];cases h1:x=="why" with
 |true =>
  walk_at "ev";cases h2:ps.length==1 with
  |true=>walk_at "ev";try rfl
  |false =>
   walk_at "ev";by_cases B:2<ps.length
   .rw[a8 B];walk_at "ev";match ps,B,f with
    |a::b::l,_,f =>
     walk_at "ev";rw[YH (f b (by simp)).1 ok_by];rfl
   .rw[aX B];walk_at "ev"
    try rfl
 |false =>
  walk_at "ev";rw[YH j Qkg];cases h2:x=="lot" with
  |true=>walk_at "ev";try rfl
  |false =>
   walk_at "ev";rw[pIn_rb j];cases B:(["ranks","book"]:List Str).any (·==x) with
   |true=>walk_at "ev";try rfl
   |false =>
    walk_at "ev";rw[pIn_fc j];rfl
def QiJ{x:Str}{ps:List Str}(f:AllA (x::ps))(hl:ps.length<=900):Zz [.lst (.str x::ps.map .str)]=some (.lst ((Qu x ps).map .str)):=by
 have j:=(f x (by simp)).1;delta Zz Qu;walk_at "ev";rw[pIn_lw j];cases h1:(["lot","why"]:List Str).any (·==x) with
 |true =>
  walk_at "ev";rw[QgM];cases ps<;>rfl
 |false =>
  walk_at "ev";rfl
def Qer{x:Str}{ps:List Str}(l:AllA (x::ps))(hl:ps.length<=900):QE [.lst (.str x::ps.map .str)]=some (.lst ((Qn x ps).map .str)):=by
 have f:=(l x (by simp)).1;delta QE Qn;walk_at "ev";rw[YH f QeU];cases h1:x=="why" with
 |true =>
  walk_at "ev";rw[Xz,iM];rfl
 |false =>
  walk_at "ev";rw[pIn_fc f];cases h2:(["flaw","camps"]:List Str).any (·==x) with
  |true =>
   walk_at "ev";rw[Xz];rfl
  |false =>
   walk_at "ev";rfl
def fOk(x:Str)(ps:List Str):Bool:=QbH x ps&&(ps.map wdB).all id
def Qng(s2:MStR):Out ⊕ Addr->Option (Out ⊕ Addr)
 |.inl (.nx f)=>s2 f
 |o=>some o
def ev_rSeq(s1 s2:MStR)(f:PEnv):rSeq s1 s2 f=(s1 f).bind (Qng s2):=by
 delta rSeq;cases s1 f with
 |none=>rfl
 |some o =>
  rcases o with o | p
  .cases o<;>rfl
  .rfl
def rseqK_nx s2 f:Qng s2 (.inl (.nx f))=s2 f:=rfl
def rseqK_rt s2 p:Qng s2 (.inl (.rt p))=some (.inl (.rt p)):=rfl
def rseqK_x(s2:MStR)(p:Addr):Qng s2 (.inr p)=some (.inr p):=rfl
def ev_rLift m f:Qcw m f=(m f).map .inl:=rfl
def rifK(s1 s2:MStR)(f:PEnv):Bool->Option (Out ⊕ Addr)
 |true=>s1 f
 |false=>s2 f
def rifK_t s1 s2 f:rifK s1 s2 f true=s1 f:=rfl
def rifK_f s1 s2 f:rifK s1 s2 f false=s2 f:=rfl
def ev_rIf(t:PEnv->Option Bool)(s1 s2:MStR)(f:PEnv):rIf t s1 s2 f=(t f).bind (rifK s1 s2 f):=by
 delta rIf;cases t f with
 |none=>rfl
 |some b=>cases b<;>rfl
def ev_rRaise(C:Addr)(f:PEnv->Option (List PV))(l:PEnv):QeQ C f l=(f l).bind λqs=>if qs.length<9 then some (.inr C) else none:=rfl
def runR_1 N m a:runR N 1 m [a]=(m (QQ N [a])).bind outR:=au rfl
def runR_2 N m a b:runR N 2 m [a,b]=(m (QQ N [a,b])).bind outR:=au rfl
def runR_3(N:Nat)(m:MStR)(a b c:PV):runR N 3 m [a,b,c]=(m (QQ N [a,b,c])).bind outR:=au rfl
def outR_rt p:outR (.inl (.rt p))=some (.inl p):=rfl
def outR_x(p:Addr):outR (.inr p)=some (.inr p):=rfl
def outR_nx f:outR (.inl (.nx f))=some (.inl .non):=rfl
def EVr:=ae (ae (ae @ev_rSeq (ae @rseqK_nx @rseqK_rt)) (ae (ae @rseqK_x @ev_rLift) (ae @rifK_t @rifK_f))) (ae (ae (ae @ev_rIf @ev_rRaise) (ae @runR_1 @runR_2)) (ae (ae @runR_3 @outR_rt) (ae @outR_x @outR_nx)))
local macro_rules|`(tactic| walk_at "ev")=>`(tactic| try simp (disch:=fail"e") only[EVr,EVs])
def QeK(C:Nat->Addr){x:Str}{ps:List Str}(f:AllA (x::ps))(hl:ps.length<=900):Yt C [.lst (.str x::ps.map .str)]=some (if fOk x ps=true then .inl .non else .inr (C 19)):=by
 delta Yt fOk;walk_at "ev";rw[QjC f hl];cases h1:QbH x ps with
 |false=>walk_at "ev";rfl
 |true =>
  walk_at "ev";rw[Xz,show List.drop 1 (PV.str x::ps.map PV.str)=ps.map PV.str from rfl,cmpK_ok (by rw[ai];lia),QmN (λs j=>f s (by simp[j]))];walk_at "ev";rw[QdU];cases h2:(ps.map wdB).all id with
  |true=>rfl
  |false=>rfl
def forLR_nx{g:PV->PEnv->Option PEnv}{b:MStR}{x:PV}{xs:List PV}{f γ1 γ2:PEnv}(h1:g x f=some γ1)(h2:b γ1=some (.inl (.nx γ2))):Qbk g b (x::xs) f=Qbk g b xs γ2:=by
 show(g x f).bind _=_;rw[h1];show(b γ1).bind _=_;rw[h2];rfl
def forLR_x{g:PV->PEnv->Option PEnv}{b:MStR}{x:PV}{xs:List PV}{f γ1:PEnv}{p:Addr}(h1:g x f=some γ1)(h2:b γ1=some (.inr p)):Qbk g b (x::xs) f=some (.inr p):=by
 show(g x f).bind _=_;rw[h1];show(b γ1).bind _=_;rw[h2];rfl
theorem QcK{α:Type}{g:PV->PEnv->Option PEnv}{b:MStR}(f:α->PV)(P:α->Bool)(p:Addr)(I:PEnv->Prop):∀(xs:List α)(l:PEnv),I l->(∀x∈xs,∀l,I l->∃γ1,g (f x) l=some γ1/\(P x=true->∃γ2,b γ1=some (.inl (.nx γ2))/\I γ2)/\(P x=false->b γ1=some (.inr p))) ->
  if xs.all P=true then ∃γ2,Qbk g b (xs.map f) l=some (.inl (.nx γ2))/\I γ2 else Qbk g b (xs.map f) l=some (.inr p)
 |[],l,h,_=>⟨l,rfl,h⟩
 |x::xs,l,h,j=>by
  obtain⟨γ1,e1,e2,e3⟩:=j x (by simp) l h;rw[fL,ba];cases B:P x with
  |false =>
   rw[aK (by simp)];exact forLR_x e1 (e3 B)
  |true =>
   obtain⟨γ2,D,h2⟩:=e2 B;rw[forLR_nx e1 D];have:=QcK f P p I xs γ2 h2 λy E=>j y (by simp[E]);simpa using this
def nOk(N:List Str)(x:Str)(ps:List Str):Bool:=(Qu x ps++Qn x ps).all λw=>N.any (·==w)
def gOk(N:List Str)(g:Nat)(x:Str)(ps:List Str):Bool:=(Qn x ps).all λw=>decide (N.idxOf w<g)
def Qdx{x:Str}{ps:List Str}{w:Str}(h:w∈Qu x ps):w∈ps:=by
 delta Qu at h;split at h
 .exact List.mem_of_mem_take h
 .cases h
def Qdy{x:Str}{ps:List Str}{w:Str}(h:w∈Qn x ps):w∈ps:=by
 delta Qn at h;split at h
 .exact fP h
 .split at h
  .exact h
  .cases h
def Qbw(x:Str)(ps:List Str):(Qu x ps).length<=ps.length:=by
 delta Qu;split
 .rw[dO];lia
 .simp
def Qbx(x:Str)(ps:List Str):(Qn x ps).length<=ps.length:=by
 delta Qn;split
 .rw[dr];lia
 .split
  .lia
  .simp
def ev_rFor ms l g b f:rFor ms l g b f=(l f).bind λxs=>Qbk g b xs (frz ms f):=rfl
def ev_mFv(m:MEx)(f:PEnv):mFv m f=(m f).bind pFv:=rfl
def pFv_s{x:Str}(h:x.length<=9000):pFv (.str x)=some (.str x):=au (Zh (by omega))
def pJs_s{x y:Str}(h:x.length+y.length<=9100):∃z,pJs (.str x) (.str y)=some z:=by
 have h0:(fj:Str).length=0:=rfl;have h1:=Zb fj x;have h2:=Zb (fj++x) y;exact⟨_,au ⟨Zh (by lia),Zh (by lia)⟩⟩
local macro_rules|`(tactic| walk_at "ev")=>`(tactic| try simp (disch:=fail"e") only[EVr,ev_rFor,ev_mFv,ev_mMtT,tpK_s,EVs])
def Qdo(C:Nat->Addr){b:Bk}{N:List Str}(ok:b.Ok)(J:∀w∈N,ar w=true){x:Str}{ps:List Str}(I:AllA (x::ps))(hl:ps.length<=900) :
  ZX C [.tup (N.map .str),b.enc,.lst (.str x::ps.map .str)]=some (if nOk N x ps=true then if gOk N b.banes.length x ps=true then .inl .non else .inr (C 21) else .inr (C 20)):=by
 have l1:=Qbw x ps;have l2:=Qbx x ps;have L:(Qu x ps++Qn x ps).length<=1900:=by rw[aO];lia
 have hm:∀w∈Qu x ps++Qn x ps,Asc w/\w.length<=9000:=λw hw=>I w (ax _ ((aP.mp hw).elim Qdx Qdy));delta ZX;walk_at "ev";rw[QiJ I hl,Qer I hl];walk_at "ev";rw[<-bF];generalize j:PV.lst (PV.str x::ps.map PV.str)=pv;have k1:=QcK (g:=gSet 3) (b:=ZJ C) PV.str (λw=>N.any (·==w)) (C 20) (λl=>∃s9,l=[.fz (.tup (N.map .str)),.fz b.enc,.fz pv,s9]) (Qu x ps++Qn x ps) [.fz (.tup (N.map .str)),.fz b.enc,.fz pv,.un] ⟨_,rfl⟩ (λw hw l ⟨s9,e⟩=>by
  subst e;have B:=hm w hw;refine⟨_,rfl,λf=>⟨[.fz (.tup (N.map .str)),.fz b.enc,.fz pv,.fz (.str w)],?_,_,rfl⟩,λf=>?_⟩
  .delta ZJ;walk_at "ev";rw[Qfu (YK B.1) J,f];walk_at "ev"
   try rfl
  .delta ZJ;walk_at "ev";rw[Qfu (YK B.1) J,f];walk_at "ev";rw[pFv_s B.2];obtain⟨z,hz⟩:=pJs_s (x := "the book has no word ") (y:=w) (by have:("the book has no word ":Str).length=21:=rfl;lia);walk_at "ev";rw[hz];rfl)
 delta nOk;cases h1:(Qu x ps++Qn x ps).all λw=>N.any (·==w) with
 |false =>
  rw[h1,aK (by simp)]at k1;rw[k1];rfl
 |true =>
  rw[h1,au rfl]at k1;obtain⟨γ2,e1,s9,rfl⟩:=k1;rw[e1];walk_at "ev";subst j;rw[Qer I hl];walk_at "ev";generalize j:PV.lst (PV.str x::ps.map PV.str)=pv;have D:∀w∈Qn x ps,w∈N:=λw hw=>by
   have:=bf.mp h1 w (aV _ hw);obtain⟨y,E,e⟩:=bY.mp this;exact bg.mp e▸E
  have k2:=QcK (g:=gSet 3) (b:=ZI C) PV.str (λw=>decide (N.idxOf w<b.banes.length)) (C 21) (λl=>∃s9,l=[.fz (.tup (N.map .str)),.fz b.enc,.fz pv,s9]) (Qn x ps) [.fz (.tup (N.map .str)),.fz b.enc,.fz pv,s9] ⟨_,rfl⟩ (λw hw l ⟨s9,e⟩=>by
   subst e;have B:=hm w (aV _ hw);refine⟨_,rfl,λf=>⟨[.fz (.tup (N.map .str)),.fz b.enc,.fz pv,.fz (.str w)],?_,_,rfl⟩,λf=>?_⟩
   .delta ZI;walk_at "ev";rw[YU (D w hw),enc_ix1];walk_at "ev";rw[aX (by have:=bC f;lia)];walk_at "ev"
    try rfl
   .delta ZI;walk_at "ev";rw[YU (D w hw),enc_ix1];walk_at "ev";rw[a8 (by have:=of_decide_eq_false f;lia)];walk_at "ev";rw[pFv_s B.2];obtain⟨z,hz⟩:=pJs_s (x:=w) (y := " is no guess") (by have:(" is no guess":Str).length=12:=rfl;lia);walk_at "ev";rw[hz];rfl)
  delta gOk;cases h2:(Qn x ps).all λw=>decide (N.idxOf w<b.banes.length) with
  |false =>
   rw[h2,aK (by simp)]at k2;rw[k2];rfl
  |true =>
   rw[h2,au rfl]at k2;obtain⟨H,e2,_,_⟩:=k2;rw[e2];rfl
def An(p:PV):Prop:=∃rs:List Str,p = .lst (rs.map .str)/\rs.length<=500/\∀r∈rs,ar r=true
def Qfb{s:Str}(h:ar s=true):An (.lst [.str s]):=⟨[s],rfl,by simp,λr hr=>by rw[al.mp hr];exact h⟩
def ev_mMethS(tab:List (Addr×(List PV->Option PV)))(f:Str)(m:MEx)(B:PEnv->Option (List PV))(l:PEnv):Qkm tab f m B l=(m l).bind λq=>(famK tab f q).bind λg=>(B l).bind λps=>g (q::ps):=rfl
def QdY{tab:List (Addr×(List PV->Option PV))}{f:Str}{D:Addr}{ks:List Str}{ps:List PV}{g:List PV->Option PV}(l:ks.contains f=false)(hl:tab.lookup D=some g):famK tab f (.obj D ks ps)=some g:=by
 show(if ks.contains f=false then tab.lookup D else none)=_;rw[au l,hl]
local macro_rules|`(tactic| walk_at "ev")=>`(tactic| try simp (disch:=fail"e") only[pAdd_ni,pAdd_in,nmZ_get,ev_mFldS,EVl])
def Qjd(C:Nat->Addr){ss:List Str}{w U:Nat}(hl:ss.length<=30)(f:∀s∈ss,Gd_b s)(l:U<2^ss.length):Zd C [Qcb C w U,.tup (ss.map .str)]=some (.lst [.str (("settled ":Str)++shS ss U)]):=by
 have a:=QdP hl f l;have D:("settled ":Str).length=8:=rfl;have j:("settled":Str).length=7:=rfl;have B:(" ":Str).length=1:=rfl;have l1:=Zb "settled" " ";delta Zd Qcb;walk_at "ev";rw[Qax C (by simp) (s := .str "settled") rfl];walk_at "ev";rw[Qax C (by simp) (s:=pN U) rfl];walk_at "ev";rw[XS hl f l];walk_at "ev";rw[show("settled":Str)++(" ":Str)=("settled ":Str) by decide+kernel]
def sh_never(C:Nat->Addr){ss:List Str}{w:Nat}:YB C [Qkh C w,.tup (ss.map .str)]=some (.lst [.str "never"]):=by
 delta YB Qkh;walk_at "ev";rw[Qax C (by simp) (s := .str "never") rfl];walk_at "ev"
def sh_maybe(C:Nat->Addr){ss:List Str}{w c U d:Nat}(hl:ss.length<=30)(f:∀s∈ss,Gd_b s)(hc:c<2^ss.length)(l:U<2^ss.length)(hd:d<2^ss.length):ZC C [QgW C w c U d,.tup (ss.map .str)]=some (.lst [.str "maybe",.str (shP ss (c,U)),.str (shS ss d)]):=by
 delta ZC QgW;walk_at "ev";rw[Qax C (by simp) (s := .str "maybe") rfl];walk_at "ev";rw[Qax C (by simp) (s:=pN c) rfl];walk_at "ev";rw[Qax C (by simp) (s:=pN U) rfl];walk_at "ev";rw[Qls hl f hc l];walk_at "ev";rw[Qax C (by simp) (s:=pN d) rfl];walk_at "ev";rw[XS hl f hd];walk_at "ev"
def sh_sure(C:Nat->Addr){ss:List Str}{w:Nat}{ps:List (Nat×Nat)}(hl:ss.length<=30)(l:∀s∈ss,Gd_b s)(f:∀x∈ps,x.1<2^ss.length/\x.2<2^ss.length)(B:ps.length<=256):Yk C [oSure C w (ps.map Qnm),.tup (ss.map .str)]=some (.lst ((("sure":Str)::ps.map (shP ss)).map .str)):=by
 delta Yk oSure;walk_at "ev";rw[Qax C (by simp) (s := .str "sure") rfl];walk_at "ev";rw[Qax C (by simp) (s := .tup (ps.map Qnm)) rfl];walk_at "ev";rw[Ql Qnm (λx=>PV.str (shP ss x)) ps λx j=>⟨_,rfl,by
  obtain⟨c,U⟩:=x;walk_at "ev";rw[Qls hl l (f _ j).1 (f _ j).2]⟩]
 walk_at "ev";rw[aH];rfl
def QgS{a c:Nat}(h:a<=c){m:Nat}(hm:m<2^a):m<2^c:=aF hm (dY (by decide) h)
def RU_lt{b:Bk}(ok:b.Ok){c w:Nat}(hc:c<2^b.banes.length)(hw:w<b.words)(f:(yl b c).testBit w=true):RU b c w<2^b.banes.length:=Qka hc (RU_ok ok hc hw f).2.1
def Qat{b:Bk}{h c:Nat}(hc:c∈cmpL b h):c<2^b.banes.length:=a7.mp (bc.mp hc).1
def prs_pair{b:Bk}(w:Nat):(ylds b w).map (prV b w)=((ylds b w).map λc=>(c,RU b c w)).map Qnm:=by
 rw[aH];refine eS λc hc=>?_;have:=(bc.mp hc).2;show PV.tup [pN c,aRV b w c]=_;delta aRV;rw[au this];rfl
def lTab(C:Nat->Addr):List (Addr×(List PV->Option PV)):=[(C 1,(Zd C)),(C 2,(Yk C)),(C 3,(ZC C)),(C 4,(YB C))]
def lot_an(C:Nat->Addr)(L:Four C){b:Bk}{ss:List Str}(ok:b.Ok)(hw:b.words=ss.length)(hl:ss.length<=30)(l:∀s∈ss,Gd_b s){w m:Nat}(D:w<b.words) :
  ∃g p,famK (lTab C) "shown" (lotV C b m w)=some g/\g [lotV C b m w,.tup (ss.map .str)]=some p/\An p:=by
 have q:=four_ne L;have E:b.banes.length<=ss.length:=hw▸ok.gw;have lt {k:Nat} (h:k<2^b.banes.length):k<2^ss.length:=QgS E h;delta lotV;by_cases h1:(yl b (it b m)).testBit w=true
 .rw[au h1];have U:=lt (RU_lt ok (it_lt b m) D h1);exact⟨_,_,QdY (by decide+kernel) (by simp[lTab]),Qjd C hl l U,Qfb (Xu (by decide+kernel) (Qdf l U))⟩
 .rw[aK h1];by_cases h2:(nots b w).isEmpty=true
  .rw[au h2,prs_pair];have H:∀x∈((ylds b w).map λc=>(c,RU b c w)),x.1<2^ss.length/\x.2<2^ss.length:=λx j=>by
    obtain⟨c,hc,rfl⟩:=aU.mp j;have f:=bc.mp hc;exact⟨lt (Qat f.1),lt (RU_lt ok (Qat f.1) D f.2)⟩
   have J:((ylds b w).map λc=>(c,RU b c w)).length<=256:=by
    rw[ai];exact aS (bM _ _) (Qev ok 0)
   refine⟨_,_,QdY (by decide+kernel) (by simp[lTab,a6,q]),sh_sure C hl l H J,_,rfl,by simp at J |-;lia,λr hr=>?_⟩;rcases ap.mp hr with rfl | hr
   .decide+kernel
   .obtain⟨x,j,rfl⟩:=aU.mp hr;exact shP_ok l (H x j).1 (H x j).2
  .rw[aK h2];by_cases B:(ylds b w).isEmpty=true
   .rw[au B];exact⟨_,_,QdY (by decide+kernel) (by simp[lTab,a6,q]),sh_never C,Qfb (by decide+kernel)⟩
   .rw[aK B];cases e1:ylds b w with
    |nil=>rw[e1]at B;exact absurd rfl B
    |cons c cs =>
     cases e2:nots b w with
     |nil=>rw[e2]at h2;exact absurd rfl h2
     |cons d ds =>
      have f:=bc.mp (show c∈ylds b w by rw[e1];simp);have I:=bc.mp (show d∈nots b w by rw[e2];simp);have hc:=lt (Qat f.1);have hd:=lt (Qat I.1);have U:=lt (RU_lt ok (Qat f.1) D f.2);refine⟨_,_,QdY (by decide+kernel) (by simp[lTab,a6,q]),sh_maybe C hl l hc U hd,["maybe",shP ss (c,RU b c w),shS ss d],rfl,by simp,λr hr=>?_⟩;rcases ap.mp hr with rfl | hr
      .decide+kernel
      .rcases ap.mp hr with rfl | hr
       .exact shP_ok l hc U
       .rw[al.mp hr];exact Qdf l hd
def Qct{s:Str}(h:Wd s):ar s=true:=YZ h.low
def wd_gd{s:Str}(h:Wd s):Gd_b s:=⟨by have:=h.l2;lia,Qct h⟩
def Qco{N:List Str}{w:Str}(h:w∈N):N[N.idxOf w]?=some w:=by
 rw[aR (bE.mpr h),et]
def QkW{x:Rw}(h:x.Ok):ar x.line=true:=by
 have j:ar sp=true:=by decide+kernel
 cases x with
 |g a b =>
  exact QaG _ j _ λs f=>by
   simp at f;rcases f with rfl | rfl | rfl | rfl
   .exact Zw
   .exact Qct h.1
   .exact un_ok
   .exact Qct h.2
 |r H b =>
  show ar (if b=[] then H else a5 sp (H::"if"::b))=true;by_cases l:b=[]
  .rw[au l];exact Qct h.1
  .rw[aK l];exact QaG _ j _ λs f=>by
    simp at f;rcases f with rfl | rfl | f
    .exact Qct h.1
    .exact if_ok
    .exact Qct (h.2.1 _ f)
def QjS{R:List Rw}{M:List Str}(G:Gd R M){p:Rp}(l:p∈ordR (GN (gsR R)) (rsR R)):(Rw.r p.1 p.2).Ok/\p.1∈nmR R/\∀w∈p.2,w∈nmR R:=by
 obtain⟨q,j,rfl⟩:=aU.mp l;have h:=rp_ok G j;have f:=XG (GN (gsR R)) q.2;exact⟨⟨h.1,λs B=>h.2.1 s (f.mem_iff.mp B),f.nodup_iff.mpr h.2.2.1,by rw[f.length_eq];exact h.2.2.2⟩,(QjO j).1,λw hw=>(QjO j).2 w (f.mem_iff.mp hw)⟩
def rule_at{R:List Rw}{k:Nat}(h:k<(bkR R).rules.length):∃p∈ordR (GN (gsR R)) (rsR R),((bkR R).rules.map Rule.enc)[k]?=some (rV (nmR R).idxOf p):=by
 have hl:k<(ordR (GN (gsR R)) (rsR R)).length:=by
  have:(bkR R).rules.length=(ordR (GN (gsR R)) (rsR R)).length:=ai _;lia
 refine⟨_,bi hl,?_⟩;show(((ordR (GN (gsR R)) (rsR R)).map λp=>(⟨(nmR R).idxOf p.1,p.2.map (nmR R).idxOf⟩:Rule)).map Rule.enc)[k]?=_;rw[aH,aT,aR hl];rfl
def QmO{R:List Rw}{M:List Str}(G:Gd R M){k:Nat}(h:k<(bkR R).rules.length):∃s:Str,∃v,((bkR R).rules.map Rule.enc)[k]?=some v/\Qz [.tup ((nmR R).map .str),v]=some (.str s)/\ar s=true:=by
 obtain⟨p,f,e⟩:=rule_at h;obtain⟨h1,h2,j⟩:=QjS G f;exact⟨_,_,e,Qlr h1 (Qco h2) λw hw=>Qco (j w hw),QkW h1⟩
def Qcy{R:List Rw}{M:List Str}(G:Gd R M):∀s∈nmR R,Gd_b s:=λs f=>wd_gd (Qkl G s f)
local macro_rules|`(tactic| walk_at "ev")=>`(tactic| try simp (disch:=fail"e") only[enc_ix0,enc_ix1,enc_ix2,flat_benc,pAdd_ni,pAdd_in,nmZ_get,EVl])
def QlB{N:List Str}{α:Type}(f:α->Str)(xs:List α)(hl:xs.length<=490)(ok:∀x∈xs,ar (f x)=true):An (.lst (xs.map λx=>PV.str (f x))) :=
 ⟨xs.map f,by rw[aH];rfl,by rw[ai];lia,λr hr=>by obtain⟨x,j,rfl⟩:=aU.mp hr;exact ok x j⟩
def rlS(R:List Rw)(k:Nat):Str:=gD λs=>∃v,((bkR R).rules.map Rule.enc)[k]?=some v/\Qz [.tup ((nmR R).map .str),v]=some (.str s)/\ar s=true
def rlS_ok{R:List Rw}{M:List Str}(G:Gd R M){k:Nat}(h:k<(bkR R).rules.length):∃v,((bkR R).rules.map Rule.enc)[k]?=some v/\Qz [.tup ((nmR R).map .str),v]=some (.str (rlS R k))/\ar (rlS R k)=true :=
 fy (p:=λs=>∃v,((bkR R).rules.map Rule.enc)[k]?=some v/\Qz [.tup ((nmR R).map .str),v]=some (.str s)/\ar s=true) (QmO G h)
def e_why{R:List Rw}{M:List Str}(G:Gd R M)(held:Nat){w:Nat}(hw:w<=60):∃p,Qac [.tup ((nmR R).map .str),(bkR R).enc,pN held,pN w]=some p/\An p:=by
 have ok:=QbS G;delta Qac;walk_at "ev";rcases e_way ok held hw with⟨_,K,e,hK⟩|⟨_,e⟩
 .rw[e];have hl:=hK.len;have hr:=ok.r40;walk_at "ev";rw[Qdl (λk=>PV.str (rlS R k)) K λk f=>⟨_,rfl,by
   obtain⟨v,e1,e2,_⟩:=rlS_ok G (hK.lt k f);walk_at "ev";rw[e1];walk_at "ev";rw[e2]⟩]
  walk_at "ev";refine⟨_,rfl,("yes":Str)::K.map (rlS R),?_,by simp;lia,λr hr=>?_⟩
  .simp[aH]
  .rcases ap.mp hr with rfl | hr
   .decide+kernel
   .obtain⟨k,f,rfl⟩:=aU.mp hr;exact(rlS_ok G (hK.lt k f)).choose_spec.2.2
 .rw[e];walk_at "ev";exact⟨_,rfl,Qfb (by decide+kernel)⟩
def e_campr{R:List Rw}{M:List Str}(G:Gd R M)(held:Nat):∃p,Xj [.tup ((nmR R).map .str),(bkR R).enc,pN held]=some p/\An p:=by
 have ok:=QbS G;have l:(bkR R).banes.length<=(nmR R).length:=ok.gw;have f:=Qev ok held;delta Xj;walk_at "ev";rw[Qlu ok];walk_at "ev";rw[Qdl (λc=>PV.str (shS (nmR R) c)) (cmpL (bkR R) held) λc hc=>⟨_,rfl,by
  walk_at "ev";rw[XS (Qcl G) (Qcy G) (QgS l (Qat hc))]⟩]
 walk_at "ev";exact⟨_,rfl,QlB (N:=nmR R) _ _ (by lia) λc hc=>Qdf (Qcy G) (QgS l (Qat hc))⟩
def Qln{R:List Rw}{M:List Str}(G:Gd R M){held g U:Nat}{t:Str}(D:ar t=true)(I:t.length<=10)(J:held<2^(bkR R).banes.length)(L:held.testBit g=true)(O:U<2^(bkR R).banes.length)(e:QeP [(bkR R).enc,pN held]=some (.tup [.str t,pN g,pN U])) :
  ∃p,ZQ [.tup ((nmR R).map .str),(bkR R).enc,pN held]=some p/\An p:=by
 have ok:=QbS G;have l:(bkR R).banes.length<=(nmR R).length:=ok.gw;have j:g<(nmR R).length:=aF (Qdm J L) l;have f:=QgS l O;have l1:=QdP (Qcl G) (Qcy G) f;have l2:=(Qcy G _ (Qbo j)).1;delta ZQ;walk_at "ev";rw[e];walk_at "ev";rw[XS (Qcl G) (Qcy G) f];walk_at "ev";rw[show [PV.str t,.str (nmZ (nmR R) g),.str (shS (nmR R) U)]=[t,nmZ (nmR R) g,shS (nmR R) U].map PV.str from rfl,pJoin_s (by simp;have:(" ":Str).length=1:=rfl;lia)];walk_at "ev";exact⟨_,rfl,Qfb (QaG _ (by decide+kernel) _ λs B=>by
  simp at B;rcases B with rfl | rfl | rfl
  .exact D
  .exact(Qcy G _ (Qbo j)).2
  .exact Qdf (Qcy G) f)⟩
def e_flawr{R:List Rw}{M:List Str}(G:Gd R M){held:Nat}(f:held<2^(bkR R).banes.length):∃p,ZQ [.tup ((nmR R).map .str),(bkR R).enc,pN held]=some p/\An p:=by
 have ok:=QbS G;obtain⟨p,e,F⟩:=e_flaw ok f;cases F with
 |non h =>
  delta ZQ;walk_at "ev";rw[e];walk_at "ev";exact⟨_,rfl,Qfb (by decide+kernel)⟩
 |torn h1 h2 j l B=>exact Qln G (by decide+kernel) (by decide+kernel) f j (Qka f l) e
 |bare h1 h2 j l B=>exact Qln G (by decide+kernel) (by decide+kernel) f j (Qka (QjX _ _) l) e
def str9:∀n:_root_.Fin 9,(((toString ((n:Nat):Int):String):Str).length<=2/\ar ((toString ((n:Nat):Int):String):Str)=true):=by decide+kernel
def QlR{n:Nat}(h:n<=8):∃s:Str,pStr [pN n]=some (.str s)/\s.length<=2/\ar s=true:=by
 have:=str9 ⟨n,by lia⟩;refine⟨_,au (show((n:Int)).natAbs<1000000 by lia),this⟩
def e_rrow{s:Str}(f:Gd_b s){p:PV}(l:p = .non\/∃n,n<=8/\p=pN n):∃r:Str,ZM [.str s,p]=some (.str r)/\ar r=true:=by
 have l1:(" ":Str).length=1:=rfl;have l2:("-":Str).length=1:=rfl;have B:=Zb s " ";have:=f.1;delta ZM;rcases l with rfl|⟨n,j,rfl⟩
 .walk_at "ev";exact⟨_,rfl,Xu (Xu f.2 (by decide+kernel)) (by decide+kernel)⟩
 .obtain⟨t,e,h1,h2⟩:=QlR j;walk_at "ev";rw[e];walk_at "ev";exact⟨_,rfl,Xu (Xu f.2 (by decide+kernel)) h2⟩
def Qfo{b:Bk}{m g:Nat}(hm:m<=8):rkV b (m+1) g = .non\/∃n,n<=8/\rkV b (m+1) g=pN n:=by
 delta rkV;cases h:(ao (m+1)).find? (λj=>(it b j).testBit g) with
 |none=>exact .inl rfl
 |some j =>
  have:=a7.mp (List.mem_of_find?_eq_some h);exact .inr ⟨j,by lia,rfl⟩
def rkS(s:Str)(p:PV):Str:=gD λr=>ZM [.str s,p]=some (.str r)/\ar r=true
def rkS_ok{s:Str}(f:Gd_b s){p:PV}(l:p = .non\/∃n,n<=8/\p=pN n):ZM [.str s,p]=some (.str (rkS s p))/\ar (rkS s p)=true :=
 fy (p:=λr=>ZM [.str s,p]=some (.str r)/\ar r=true) (e_rrow f l)
def QlG{α:Type}(f:Nat->α)(n:Nat):((ao n).map f).zipIdx=(ao n).map λg=>(f g,g):=by
 refine gY (by simp) λi h1 h2=>?_;simp
def e_ranks{R:List Rw}{M:List Str}(G:Gd R M):∃p,Xi [.tup ((nmR R).map .str),(bkR R).enc]=some p/\An p:=by
 have ok:=QbS G;have B:=ok.g8;have l:(bkR R).banes.length<=(nmR R).length:=ok.gw;obtain⟨m,e,_,hm⟩:=QcM ok;delta Xi;walk_at "ev";rw[e];walk_at "ev";rw[QlG,aH,cmpK_ok (by simp;lia),show((λx:PV×Nat=>PV.tup [pN x.2,x.1])∘λg=>(rkV (bkR R) (m+1) g,g))=(λg=>PV.tup [pN g,rkV (bkR R) (m+1) g]) from rfl,Ql (λg=>PV.tup [pN g,rkV (bkR R) (m+1) g]) (λg=>PV.str (rkS (nmZ (nmR R) g) (rkV (bkR R) (m+1) g))) (ao (bkR R).banes.length) λg f=>⟨_,rfl,by
  have j:g<(nmR R).length:=aF (a7.mp f) l;walk_at "ev";rw[(rkS_ok (Qcy G _ (Qbo j)) (Qfo hm)).1]⟩]
 walk_at "ev";exact⟨_,rfl,QlB (N:=nmR R) _ _ (by simp;lia) λg f=>(rkS_ok (Qcy G _ (Qbo (aF (a7.mp f) l))) (Qfo hm)).2⟩
def gr_ok{R:List Rw}{M:List Str}(G:Gd R M){p:Gp}(l:p∈srtG (gsR R)):(gRow p).Ok/\p.1∈nmR R/\p.2∈nmR R:=by
 have f:=(YR _).mem_iff.mp l;obtain⟨x,j,e⟩:=bw.mp f;refine⟨?_,wds_g f⟩;cases x with
 |g a b=>cases e;exact G.ok _ j
 |r h b=>cases e
def GN_srt{f:List Gp}:QA (GN f)=GN (srtG f):=by
 refine(Xd ((YR f).map _) ?_).symm;have h:=QhX (f.map tr);rw[QkC]at h;rw[i9]at h |-;exact h
def nm_get{f:List Gp}{rs:List Rp}(i:Nat)(p:Gp)(h:(srtG f)[i]?=some p):(nm f rs)[i]?=some p.1:=by
 have hl:=(aw.mp h).1;delta nm;rw[GN_srt,b6 (by delta GN;rw[ai];exact hl)];delta GN;rw[aT,h];rfl
def bRw(R:List Rw):List Rw:=Qdd (srtG (gsR R)) (ordR (GN (gsR R)) (rsR R))
def bRw_ok{R:List Rw}{M:List Str}(G:Gd R M):∀x∈bRw R,x.Ok:=QiQ (λp f=>(gr_ok G f).1) λp f=>(QjS G f).1
def bRw_len{R:List Rw}{M:List Str}(G:Gd R M):(bRw R).length<=48:=by
 have h1:(gsR R).length<=2:=G.ng;have h2:(rsR R).length<=40:=G.nr;delta bRw Qdd ordR;rw[aO,ai,ai,ai,XJ];show(gsR R).length+(rsR R).length<=48;lia
def e_sbk{R:List Rw}{M:List Str}(G:Gd R M):Yf [.tup ((nmR R).map .str),(bkR R).enc]=some (.str (a5 nl ((bRw R).map Rw.line))):=by
 rw[<-Qlw];exact e_sbook (λp f=>(gr_ok G f).1) (λp f=>(QjS G f).1) (by rw[XJ];exact aS G.ng (by decide)) (by delta ordR;rw[ai];exact G.nr) nm_get (λp f=>Qco (gr_ok G f).2.2) (λp f=>Qco (QjS G f).2.1) λp f w hw=>Qco ((QjS G f).2.2 w hw)
def an_book{R:List Rw}{M:List Str}(G:Gd R M):An (.lst ((bRw R).map λx=>.str x.line)):=⟨(bRw R).map Rw.line,by rw[aH];rfl,by rw[ai];have:=bRw_len G;lia,λr hr=>by
 obtain⟨x,f,rfl⟩:=aU.mp hr;exact QkW (bRw_ok G x f)⟩
def QmS{R:List Rw}{M:List Str}(G:Gd R M):ZN [.str (a5 nl ((bRw R).map Rw.line))]=some (.lst ((bRw R).map λx=>.str x.line)):=QdG (bRw_ok G) (by have:=bRw_len G;lia)
def Qjn{n:Nat}:∀{xs:List Nat},(∀x∈xs,x<n)->ZW xs<2^n:=by
 intro xs h;refine jP _ λi j=>?_;cases f:(ZW xs).testBit i with
 |false=>rfl
 |true =>
  rw[Zu]at f;have:=h i (bC f);lia
def Qcs{N:List Str}{w:Str}(h:N.any (·==w)=true):w∈N:=by
 obtain⟨y,f,e⟩:=bY.mp h;exact bg.mp e▸f
local macro_rules|`(tactic| walk_at "ev")=>`(tactic| try simp (disch:=fail"e") only[enc_ix0,enc_ix1,enc_ix2,flat_benc,pAdd_ni,pAdd_in,ev_mMtT,tpK_s,ev_mMethS,ev_mFldS,EVs])
def Qiz{N ws:List Str}{t:PV}{s1:mQ}(h:∀w∈ws,w∈N):YO (gSet 0) QH (mMtT Yp (mVar 1) (Qa (mVar 0) aNil)) [s1,.fz (.tup (N.map .str))] (ws.map .str)=some (encN (ws.map N.idxOf)):=by
 rw[Ql PV.str (λw=>pN (N.idxOf w)) ws λw hw=>⟨_,rfl,by
  walk_at "ev";rw[YU (h w hw)]⟩]
 delta encN;rw[aH];rfl
def Qfd{x:Str}{ps:List Str}(h:QbH x ps=true)(f:(["lot","why"]:List Str).any (·==x)=true):∃a,Qu x ps=[a]:=by
 have h0:0<ps.length:=by
  delta QbH at h;by_cases h1:(x=="why")=true
  .rw[au h1]at h;rcases (dR _ _).mp h with h | h
   .have:=bg.mp h;omega
   .have:=bC (aN _ _ |>.mp h).1;omega
  .rw[aK h1]at h;by_cases h2:(x=="lot")=true
   .rw[au h2]at h;have:=bg.mp h;omega
   .exfalso;obtain⟨y,j,e⟩:=bY.mp f;have e:=bg.mp e;simp at j;rcases j with rfl | rfl
    .exact h2 (by rw[<-e];simp)
    .exact h1 (by rw[<-e];simp)
 delta Qu;rw[au f];match ps,h0 with
 |a::l,_=>exact⟨a,rfl⟩
def e_answer(C:Nat->Addr)(T:Four C){R:List Rw}{M:List Str}(G:Gd R M){x:Str}{ps:List Str}(I:AllA (x::ps))(hl:ps.length<=900)(hf:fOk x ps=true)(U:nOk (nmR R) x ps=true)(Y:gOk (nmR R) (bkR R).banes.length x ps=true) :
  ∃p,QbY C [.tup ((nmR R).map .str),(bkR R).enc,.lst (.str x::ps.map .str)]=some p/\An p:=by
 have D:=(I x (by simp)).1;have ok:=QbS G;have H:=Qcl G;have l1:=Qbw x ps;have l2:=Qbx x ps;have j:∀w∈Qu x ps++Qn x ps,w∈nmR R:=λw hw=>Qcs (bf.mp U w hw);have E:∀k∈(Qn x ps).map (nmR R).idxOf,k<(bkR R).banes.length:=λk J=>by
  obtain⟨w,hw,rfl⟩:=aU.mp J;exact bC (bf.mp Y w hw)
 have h8:=ok.g8;have hm:=Qjn E;delta fOk at hf;rw[aN]at hf;have f:=hf.1;delta QbY;walk_at "ev";rw[QiJ I hl];walk_at "ev";rw[Qiz (t := .non) λw hw=>j w (cy _ hw)];walk_at "ev";rw[Qer I hl];walk_at "ev";rw[Qiz (t := .non) λw hw=>j w (aV _ hw)];walk_at "ev";rw[Qes λk J=>by have:=E k J;lia];walk_at "ev";generalize av:ZW ((Qn x ps).map (nmR R).idxOf)=held at *;rw[YH D Qkg];cases c1:x=="lot" with
 |true =>
  have L:=bg.mp c1;obtain⟨a,e1⟩:=Qfd f (by rw[L];decide+kernel);have l:a∈nmR R:=j a (by rw[e1];simp);have hw:(nmR R).idxOf a<(bkR R).words:=bE.mpr l;obtain⟨m,_,B,_⟩:=QcM ok;rw[e1];walk_at "ev";rw[e_lot C ok hw B];obtain⟨g,p,k1,k2,k3⟩:=lot_an C T ok rfl H (Qcy G) (m:=m) hw;delta lTab at k1;walk_at "ev";rw[k1];walk_at "ev";rw[k2];exact⟨p,rfl,k3⟩
 |false =>
  walk_at "ev";rw[YH D QeU];cases c2:x=="why" with
  |true =>
   have O:=bg.mp c2;obtain⟨a,e1⟩:=Qfd f (by rw[O];decide+kernel);have l:a∈nmR R:=j a (by rw[e1];simp);have hw:(nmR R).idxOf a<(nmR R).length:=bE.mpr l;rw[e1];walk_at "ev";obtain⟨p,k1,k2⟩:=e_why G held (w:=(nmR R).idxOf a) (by lia);rw[k1];exact⟨p,rfl,k2⟩
  |false =>
   walk_at "ev";rw[YH D QkT];cases c3:x=="flaw" with
   |true =>
    walk_at "ev";obtain⟨p,k1,k2⟩:=e_flawr G hm;rw[k1];exact⟨p,rfl,k2⟩
   |false =>
    walk_at "ev";rw[YH D Qip];cases c4:x=="ranks" with
    |true =>
     walk_at "ev";obtain⟨p,k1,k2⟩:=e_ranks G;rw[k1];exact⟨p,rfl,k2⟩
    |false =>
     walk_at "ev";rw[YH D Qiq];cases c5:x=="camps" with
     |true =>
      walk_at "ev";obtain⟨p,k1,k2⟩:=e_campr G held;rw[k1];exact⟨p,rfl,k2⟩
     |false =>
      walk_at "ev";rw[e_sbk G];walk_at "ev";rw[QmS G];exact⟨_,rfl,an_book G⟩
abbrev lnV(R:List Rw):PV := .lst (R.map λx=>.str x.line)
abbrev nmV(R:List Rw):PV := .tup ((nmR R).map .str)
def deskV(C:Nat->Addr)(R:List Rw):PV := .obj (C 5) ["lines","names","book"] [lnV R,nmV R,(bkR R).enc]
def runX3k{f:Type}(m:MX f)(a:Addr)(p:PV)(t:f):runX 3 2 m a [p] t=(m [.fz (.opq a),.fz p,.un] t).bind outX:=rfl
def e_told{R:List Rw}{M:List Str}(G:Gd R M):Zv [lnV R]=some (.tup [nmV R,(bkR R).enc]):=by
 rw[e_lines G];delta toldV;rw[<-Qlw]
local macro_rules|`(tactic| walk_at "ev")=>`(tactic| try simp (disch:=fail"e") only[flat_benc,ev_mFld,EVs])
def e_keep{R:List Rw}{M:List Str}(G:Gd R M)(a:Addr):Xl a [lnV R] ⟨[],[],none⟩=some ⟨["lines","names","book"],[lnV R,nmV R,(bkR R).enc],none⟩:=by
 delta Xl;rw[runX3k];have e1:sSet [1] 2 (Qc Zv (Qa (mVar 1) aNil)) [.fz (.opq a),.fz (lnV R),.un]=some (.nx [.fz (.opq a),.fz (lnV R),.fz (.tup [nmV R,(bkR R).enc])]):=by
  walk_at "ev";rw[e_told G];walk_at "ev"
  try rfl
 rw[Qde (xq_lift e1 rfl)];rw[Qde (Qgr (r:=lnV R) (t':=⟨["lines"],[lnV R],none⟩) rfl rfl)];rw[Qde (Qgr (r:=nmV R) (t':=⟨["lines","names"],[lnV R,nmV R],none⟩) rfl rfl)];rw[Qgr (r:=(bkR R).enc) (t':=⟨["lines","names","book"],[lnV R,nmV R,(bkR R).enc],none⟩) rfl rfl];rfl
def e_dinit{R:List Rw}{M:List Str}(G:Gd R M)(a:Addr):Ze a [.str (a5 nl (R.map Rw.line))] ⟨[],[],none⟩=some ⟨["lines","names","book"],[lnV R,nmV R,(bkR R).enc],none⟩:=by
 delta Ze;have e1:Qa (Qc ZN (Qa (mVar 1) aNil)) aNil [.fz (.opq a),.fz (.str (a5 nl (R.map Rw.line)))]=some [lnV R]:=by
  walk_at "ev";rw[QdG G.ok (by have:=G.len;lia)];walk_at "ev"
  try rfl
 rw[runX2',xq_meth e1 rfl rfl (e_keep G a)];rfl
def QiG(C:Nat->Addr)(R:List Rw):fldK (C 5) "names" (deskV C R)=some (nmV R)/\fldK (C 5) "book" (deskV C R)=some (bkR R).enc:=by
 constructor
 .show(if C 5=C 5 then _ else none)=_;rw[au rfl];rfl
 .show(if C 5=C 5 then _ else none)=_;rw[au rfl];rfl
def rexK(ms:List Nat)(f:PEnv):PV ⊕ Addr->Out ⊕ Addr
 |.inl r=>.inl (.nx (Qx (flat r) ms f))
 |.inr p=>.inr p
def ev_rExE(ms:List Nat)(g:List PV->Option (PV ⊕ Addr))(l:PEnv->Option (List PV))(f:PEnv):rExE ms g l f=(l f).bind λqs=>(g qs).map (rexK ms f):=by
 delta rExE;cases l f with
 |none=>rfl
 |some qs =>
  show(g qs).map _=(g qs).map _;cases g qs with
  |none=>rfl
  |some o=>cases o<;>rfl
def rexK_l ms f r:rexK ms f (.inl r) = .inl (.nx (Qx (flat r) ms f)):=rfl
def rexK_r(ms:List Nat)(f:PEnv)(p:Addr):rexK ms f (.inr p) = .inr p:=rfl
def pStarts_s(x y:Str):Qbn (.str x) [.str y]=some (.bl (cT x y)):=rfl
def fldN(C:Nat->Addr)(R:List Rw):fldK (C 5) "names" (deskV C R)=some (nmV R):=(QiG C R).1
def fldB(C:Nat->Addr)(R:List Rw):fldK (C 5) "book" (deskV C R)=some (bkR R).enc:=(QiG C R).2
local macro_rules|`(tactic| walk_at "ev")=>`(tactic| try simp (disch:=fail"e") only[flat_benc,ev_mFld,EVr,ev_rExE,rexK_l,rexK_r,pStarts_s,fldN,fldB,EVs])
def e_ask(C:Nat->Addr)(B:Four C){R:List Rw}{M:List Str}(G:Gd R M){L x:Str}{ps:List Str}(D:cC L sp=x::ps)(l:AllA (x::ps))(hl:ps.length<=900)(J:L.length<=900)(t1:cT L "tell "=false)(I:cT L "drop "=false) :
  (fOk x ps=false->Qq C [deskV C R,.str L]=some (.inr (C 19)))/\(fOk x ps=true->nOk (nmR R) x ps=false->Qq C [deskV C R,.str L]=some (.inr (C 20))) /\
  (fOk x ps=true->nOk (nmR R) x ps=true->gOk (nmR R) (gsR R).length x ps=false->Qq C [deskV C R,.str L]=some (.inr (C 21))) /\
  (fOk x ps=true->nOk (nmR R) x ps=true->gOk (nmR R) (gsR R).length x ps=true->∃p,Qq C [deskV C R,.str L]=some (.inl p)/\An p):=by
 have j:YJ (.str L) [.str " "]=some (.str x::ps.map .str):=by rw[Qdv (by lia),D];rfl
 have E:∀w∈nmR R,ar w=true:=λw hw=>Qct (Qkl G w hw);have ok:=QbS G;have k1:=QeK C l hl;have k2:=Qdo C ok E l hl;rw[bkR_g]at k2;delta Qq;walk_at "ev";rw[t1];walk_at "ev";rw[I];walk_at "ev";rw[j];walk_at "ev";rw[k1];cases h1:fOk x ps with
 |false =>
  refine⟨λ_=>?_,(λz=>nomatch z),(λz=>nomatch z),(λz=>nomatch z)⟩;rw[aK (by simp)];walk_at "ev"
  try rfl
 |true =>
  refine⟨(λz=>nomatch z),λ_=>?_,λ_=>?_,λ_=>?_⟩
  .intro h2;rw[au rfl];walk_at "ev";rw[k2,h2,aK (by simp)];walk_at "ev"
   try rfl
  .intro h2 f;rw[au rfl];walk_at "ev";rw[k2,h2,au rfl,f,aK (by simp)];walk_at "ev"
   try rfl
  .intro h2 f;rw[au rfl];walk_at "ev";rw[k2,h2,au rfl,f,au rfl];walk_at "ev";obtain⟨p,e,H⟩:=e_answer C B G l hl h1 h2 (by rw[bkR_g];exact f);rw[e];exact⟨p,rfl,H⟩
local macro_rules|`(tactic| walk_at "ev")=>`(tactic| try simp (disch:=fail"e") only[EVs])
section
open Builtin.Str StrLaws
def e_drawsN(c:Int){n:Nat}(D:n<=1000):∃ds:List Nat,Za [.int c,pN n]=some (.lst (encN ds))/\ds.length=n:=by
 delta Za;walk_at "ev";generalize ((c%((2147483629:Nat):Int)).toNat+1)*1103515245%2147483647=f;obtain⟨B,e,number,ds,s4,rfl,h1⟩:=Qdj (g:=gSet 4) (b:=Xr) (λj l=>∃(number:Nat)(ds:List Nat)(s4:mQ),l=[.fz (.int c),.fz (pN n),.fz (pN number),.ow (encN ds),s4]/\ds.length=j)
  n [.fz (.int c),.fz (pN n),.fz (pN f),.ow (encN []),.un] ⟨f,[],.un,rfl,rfl⟩ (by
   rintro j l hj ⟨number,ds,s4,rfl,h1⟩;refine⟨_,_,rfl,?_,number*48271%2147483647,ds++[number*48271%2147483647/13],.fz (pN j),rfl,by simp[h1]⟩;delta Xr;walk_at "ev";rw[Zt (by rw[encN_len];lia) rfl];walk_at "ev";simp[encN])
 rw[show([]:List PV)=encN [] from rfl,e];walk_at "ev";exact⟨ds,rfl,h1⟩
def dsN_get{ds:List Nat}{n:Nat}(h:ds.length=n){i:Nat}(f:i<n):(encN ds)[i]?=some (pN (ds.getD i 0)):=by
 rw[encN_get,aR (by lia),jK,aR (by lia)];rfl
def Dr(E:List PV)(n:Nat):Prop:=E.length=n/\∀i,i<n->∃d:Nat,E[i]?=some (pN d)
def dr_of{ds:List Nat}{n:Nat}(h:ds.length=n):Dr (encN ds) n:=⟨by rw[encN_len,h],λi f=>⟨_,dsN_get h f⟩⟩
def e_dr(c:Int){n:Nat}(f:n<=1000):∃E,Za [.int c,pN n]=some (.lst E)/\Dr E n:=by
 obtain⟨ds,e,h⟩:=e_drawsN c f;exact⟨_,e,dr_of h⟩
def XQ(x:Str):x.cps.toList.length=x.length:=by simp[cw]
def Qmw{a:Nat} u n (h:n<=a):j5 (some a) u 1 n=j5 (some n) u 1 n:=by
 delta j5;grind
def s_lo x {a:Nat} (h:a<=x.length):(cg x none (some a)).cps.toList=x.cps.toList.take a:=by
 rw[Qef x (cG _) h none _ (idx_lo _ _),gv,Nat.sub_zero]
def s_hi(x:Str)(a:Nat):(cg x (some (a:Int)) none).cps.toList=x.cps.toList.drop a:=by
 have f:=XQ x;by_cases h:a<=x.length
 .rw[Qef x (a:=a) (b:=x.length) h (aB _) _ none (idx_hi _ _),c7 (by rw[dr];lia)]
 .rw[Qef x (a:=x.length) (b:=x.length) (aB _) (aB _) _ none ((Qmw none x.length (b8 (mf h))).trans (idx_hi _ _)),Nat.sub_self,List.take_zero,dL (by lia)]
def QcF(z:Str)(lo f:Option Int){c:Nat}(h:c∈(cg z lo f).cps.toList):c∈z.cps.toList:=by
 delta cg at h;split at h
 .exact h
 .have h:c∈List.filterMap (λi=>z.cps[i]?) (j5 lo f 1 z.length):=h;obtain⟨i,_,f⟩:=bw.mp h;obtain⟨l,rfl⟩:=b0.mp f;exact Array.getElem_mem_toList l
def swap_ok{x w:Str}(f:Low x)(hw:Low w)(l:w.length=1){a:Nat}(B:a<x.length):Low (cg x none (some (a:Int))++w++cg x (some ((a+1:Nat):Int)) none)/\(cg x none (some (a:Int))++w++cg x (some ((a+1:Nat):Int)) none).length=x.length:=by
 have e1:=s_lo x (b8 B);have e2:=s_hi x (a+1);refine⟨QgD (QgD (λc hc=>f c (QcF _ _ _ hc)) hw) λc hc=>f c (QcF _ _ _ hc),?_⟩;rw[Zb,Zb,l,<-XQ,<-XQ (cg x (some _) none),e1,e2,dO,dr,XQ];lia
def six_get(h:i<6):∃v ,(encN [1,3,5,7,9,11])[i]?=some (pN v):=by
 rw[encN_get,aR (by simpa using h)];exact⟨_,rfl⟩
def Qda:List Str:=["by","lot","why","tell","drop","book","ranks","camps","flaw","stands","yes","no"]
def lowC(s:Str):Bool:=s.cps.toList.all λc=>decide (97<=c)&&decide (c<=122)
def low_of{s:Str}(h:lowC s=true):Low s:=λc hc=>by
 have:=bf.mp h c hc;rw[aN]at this;exact⟨bC this.1,bC this.2⟩
def verbs_ok:∀s∈Qda,lowC s=true/\1<=s.length/\s.length<=11:=by decide+kernel
def no3_a:∀s∈no3,lowC (s++"a")=true/\1<=(s++"a").length/\(s++"a").length<=12/\(s++"a")∉no3:=by decide+kernel
def Lw(s:Str):Prop:=1<=s.length/\s.length<=12/\Low s
end
def wd_fix{s:Str}(h:Lw s)(f:s∉no3):Wd s:=⟨h.1,h.2.1,h.2.2,f⟩
def nmE:MSt:=sIf (truB (bin2 ZR (mVar 9) (mVar 7))) (sApp [9] 7 (mVar 9)) sNx
def nmT:MSt:=(sSeq (sIf (truB (bin2 pIn (mVar 9) (mTup (Qa (mC (.str "guess")) (Qa (mC (.str "unless")) (Qa (mC (.str "if")) aNil)))))) (sSet [9] 9 (bin2 pAdd (mVar 9) (mC (.str "a")))) sNx) nmE)
def nmT_ok{p0 p1 p2 p4 p5 p6 p8:PV}{s3 s10:mQ}{names:List Str}{s:Str}(h:Lw s)(hd:names.Nodup)(hw:∀s∈names,Wd s)(hl:names.length<=100) :
  ∃(f:List Str)(s':mQ),nmT [.fz p0,.fz p1,.fz p2,s3,.fz p4,.fz p5,.fz p6,.ow (names.map .str),.fz p8,.fz (.str s),s10]=some (.nx [.fz p0,.fz p1,.fz p2,s3,.fz p4,.fz p5,.fz p6,.ow (f.map .str),.fz p8,s',s10])/\f.Nodup/\(∀s∈f,Wd s)/\f.length<=names.length+1/\1<=f.length:=by
 have E:("a":Str).length=1:=rfl;have H:=h.2.1;have key:∀t:Str,Wd t->∃(f:List Str)(s':mQ),nmE [.fz p0,.fz p1,.fz p2,s3,.fz p4,.fz p5,.fz p6,.ow (names.map .str),.fz p8,.fz (.str t),s10]=some (.nx [.fz p0,.fz p1,.fz p2,s3,.fz p4,.fz p5,.fz p6,.ow (f.map .str),.fz p8,s',s10])/\f.Nodup/\(∀s∈f,Wd s)/\f.length<=names.length+1/\1<=f.length:=λt B=>by
  delta nmE;walk_at "ev";rw[XE (Qct B) λs l=>Qct (hw s l)];cases hc:names.any (·==t) with
  |true =>
   walk_at "ev";refine⟨names,_,rfl,hd,hw,by lia,?_⟩;have:=Qcs hc;cases names with
   |nil=>cases this
   |cons _ _=>simp
  |false =>
   walk_at "ev";rw[Zt (by rw[ai];lia) rfl];refine⟨names++[t],.fz (.str t),by rw[bF];rfl,?_,?_,by simp,by simp⟩
   .refine gB.mpr ⟨hd,by simp,λa D b I e=>?_⟩;subst e;rw[al.mp I]at D;have:names.any (·==t)=true:=bY.mpr ⟨t,D,by simp⟩;rw[hc]at this;cases this
   .intro s l;rcases aP.mp l with z | z
    .exact hw s z
    .rw[al.mp z];exact B
 delta nmT;walk_at "ev";rw[pIn_3 h.2.2];by_cases j:s∈no3
 .have e1:no3.any (·==s)=true:=bY.mpr ⟨s,j,by simp⟩;obtain⟨J,L,M,O⟩:=no3_a s j;rw[e1];walk_at "ev";exact key (s++"a") ⟨L,M,low_of J,O⟩
 .rw[no_any j];walk_at "ev";exact key s (wd_fix h j)
abbrev nmA:MSt:=(sSet [4,8,4,8] 9 (Qc QI (Qa (bin2 pIx (mVar 4) (bin2 pAdd (mN 3) (mVar 8))) (Qa (bin2 pAdd (mN 1) (bin2 pMod (bin2 pDiv (bin2 pIx (mVar 4) (bin2 pAdd (mN 4) (mVar 8))) (mN 5)) (mN 4))) aNil))))
abbrev nmB:MSt:=(sIf (truB (bin2 pLt (bin2 pMod (bin2 pIx (mVar 4) (mN 20)) (mN 4)) (mN 2))) (sSeq (sSet [2,4,8,4] 10 (bin2 pIx (mVar 2) (bin2 pMod (bin2 pAdd (bin2 pIx (mVar 4) (mN 21)) (bin2 pMul (mVar 8) (bin2 pIx (mLst (mLim (Qa (mN 1) (Qa (mN 3) (Qa (mN 5) (Qa (mN 7) (Qa (mN 9) (Qa (mN 11) aNil)))))))) (bin2 pMod (bin2 pIx (mVar 4) (mN 22)) (mN 6))))) (mN 26))))
 (sSet [5,6,10,5,6] 9 (bin2 pAdd (bin2 pAdd (sl3 ZV (mVar 5) mNo (mSo (mVar 6))) (mVar 10)) (sl3 ZV (mVar 5) (mSo (bin2 pAdd (mVar 6) (mN 1))) mNo)))) sNx)
abbrev nmC:MSt:=(sIf (truB (bin2 pEq (bin2 pMod (bin2 pIx (mVar 4) (mN 20)) (mN 4)) (mN 2))) (sSet [3,4,8] 9 (bin2 pIx (mVar 3) (bin2 pMod (bin2 pAdd (bin2 pIx (mVar 4) (mN 23)) (bin2 pMul (mN 5) (mVar 8))) (mN 12)))) sNx)
def nm_body:YE=sSeq nmA (sSeq nmB (sSeq nmC nmT)):=rfl
def verb_get{i:Nat}(h:i<12):∃v,(Qda.map PV.str)[i]?=some (.str v)/\Lw v:=by
 have hl:i<Qda.length:=h;refine⟨Qda[i],by rw[aT,aR hl];rfl,?_⟩;have:=verbs_ok _ (bi hl);exact⟨this.2.1,by lia,low_of this.1⟩
def Qhn{a b:MSt}{l f:PEnv}(h:a l=some (.nx f)):sSeq a b l=b f:=by
 show(a l).bind _=_;rw[h];rfl
section
abbrev nmG(p0 p1:PV)(E:List PV)(base:Str)(at' k:Nat)(names:List PV)(s9 s10:mQ):PEnv:=[.fz p0,.fz p1,.fz (.str "abcdefghijklmnopqrstuvwxyz"),.ow (Qda.map .str),.fz (.lst E),.fz (.str base),.fz (pN at'),.ow names,.fz (pN k),s9,s10]
def nmA_ok(hE:Dr E 26)(J:k<9):∃f,nmA (nmG p0 p1 E base at' k names s9 s10)=some (.nx (nmG p0 p1 E base at' k names (.fz (.str f)) s10))/\Lw f:=by
 obtain⟨B,D⟩:=hE.2 (3+k) (by lia);obtain⟨j,H⟩:=hE.2 (4+k) (by lia);have hm:j/5%4<4:=bA _ (by decide);obtain⟨f,I,fl,l⟩:=QgK B (size:=1+j/5%4) (by lia);delta nmG;walk_at "ev";rw[D];walk_at "ev";rw[H];walk_at "ev";rw[I];walk_at "ev";exact⟨f,rfl,by lia,by lia,l⟩
def nmB_ok(hE:Dr E 26)(hk:k<9)(B:Lw base)(U:at'<base.length){f:Str}(hf:Lw f):∃O t,nmB (nmG p0 p1 E base at' k names (.fz (.str f)) s10)=some (.nx (nmG p0 p1 E base at' k names (.fz (.str O)) t))/\Lw O:=by
 obtain⟨D,H⟩:=hE.2 20 (by decide);obtain⟨j,I⟩:=hE.2 21 (by decide);obtain⟨J,L⟩:=hE.2 22 (by decide);obtain⟨v,Y⟩:=six_get (i:=J%6) (bA _ (by decide));have l:(j+k*v)%26<26:=bA _ (by decide);have M:=B.2.1;delta nmG;walk_at "ev";rw[H];walk_at "ev";by_cases hc:D%4<2
 .rw[a8 hc];walk_at "ev";rw[I];walk_at "ev";rw[L];walk_at "ev";rw[show [pN 1,pN 3,pN 5,pN 7,pN 9,pN 11]=encN [1,3,5,7,9,11] from rfl,Y];walk_at "ev";rw[Qek l];have w1:=Qen (97+(j+k*v)%26);obtain⟨q1,T⟩:=swap_ok B.2.2 (low1 l) w1 U;generalize (⟨#[97+(j+k*v)%26]⟩:Str)=w at *;have l1:=QaR base none (some (at':Int));have l2:=QaR base (some ((at'+1:Nat):Int)) none;have l3:=Zb (cg base none (some (at':Int))) w;walk_at "ev";refine⟨_,_,rfl,?_⟩;exact⟨by rw[T];exact B.1,by rw[T];exact M,q1⟩
 .rw[aX hc];walk_at "ev";exact⟨f,_,rfl,hf⟩
def nmC_ok(hE:Dr E 26){f:Str}(hf:Lw f):∃I,nmC (nmG p0 p1 E base at' k names (.fz (.str f)) s10)=some (.nx (nmG p0 p1 E base at' k names (.fz (.str I)) s10))/\Lw I:=by
 obtain⟨j,l⟩:=hE.2 20 (by decide);obtain⟨B,D⟩:=hE.2 23 (by decide);delta nmG;walk_at "ev";rw[l];walk_at "ev";cases hc:j%4==2 with
 |true =>
  walk_at "ev";rw[D];walk_at "ev";obtain⟨v,e,h⟩:=verb_get (i:=(B+5*k)%12) (bA _ (by decide));rw[e];walk_at "ev";exact⟨v,rfl,h⟩
 |false =>
  walk_at "ev";exact⟨f,rfl,hf⟩
end
def e_lnames(c:Int){size:Nat}(h1:1<=size)(h9:size<=9):∃names:List Str,ZZ [.int c,pN size]=some (.lst (names.map .str))/\names.Nodup/\(∀s∈names,Wd s)/\names.length<=9/\1<=names.length:=by
 obtain⟨E,M,hE⟩:=e_dr c (n:=26) (by decide);obtain⟨O,T⟩:=hE.2 0 (by decide);obtain⟨D,U⟩:=hE.2 1 (by decide);obtain⟨H,Y⟩:=hE.2 2 (by decide);have hm:D%12<12:=bA _ (by decide);obtain⟨base,eb,bl,l⟩:=QgK O (size:=1+D%12) (by lia);have I:Lw base:=⟨by lia,by lia,l⟩
 have av:=I.2.1;have ha:H%base.length<base.length:=bA _ (by lia);delta ZZ;walk_at "ev";rw[M];walk_at "ev";rw[T];walk_at "ev";rw[U];walk_at "ev";rw[eb];walk_at "ev";rw[Y];walk_at "ev";generalize H%base.length=at' at *;obtain⟨az,e,names,s8,s9,s10,rfl,k1,k2,k3,J⟩:=Qdj (g:=gSet 8) (b:=YE) (λj L=>∃(names:List Str)(s8 s9 s10:mQ),L=[.fz (.int c),.fz (pN size),.fz (.str "abcdefghijklmnopqrstuvwxyz"),.ow (Qda.map .str),.fz (.lst E),.fz (.str base),.fz (pN at'),.ow (names.map .str),s8,s9,s10]/\names.Nodup/\(∀s∈names,Wd s)/\names.length<=j/\(1<=j->1<=names.length))
  size [.fz (.int c),.fz (pN size),.fz (.str "abcdefghijklmnopqrstuvwxyz"),.ow (Qda.map .str),.fz (.lst E),.fz (.str base),.fz (pN at'),.ow (([]:List Str).map .str),.un,.un,.un] ⟨[],.un,.un,.un,rfl,.nil,(λs h=>nomatch h),aB _,λz=>by lia⟩ (by
   rintro j L hj ⟨names,s8,s9,s10,rfl,k1,k2,k3,J⟩;obtain⟨f1,e1,q1⟩:=nmA_ok (p0 := .int c) (p1:=pN size) (base:=base) (at':=at') (k:=j) (names:=names.map .str) (s9:=s9) (s10:=s10) hE (by lia);obtain⟨f2,B,e2,q2⟩:=nmB_ok (p0 := .int c) (p1:=pN size) (base:=base) (at':=at') (k:=j) (names:=names.map .str) (s10:=s10) hE (by lia) I ha q1;obtain⟨f3,e3,q3⟩:=nmC_ok (p0 := .int c) (p1:=pN size) (base:=base) (at':=at') (k:=j) (names:=names.map .str) (s10:=B) hE q2;obtain⟨f,s',e4,r1,r2,r3,r4⟩:=nmT_ok (p0 := .int c) (p1:=pN size) (p2 := .str "abcdefghijklmnopqrstuvwxyz") (p4 := .lst E) (p5 := .str base) (p6:=pN at') (p8:=pN j) (s3 := .ow (Qda.map .str)) (s10:=B) q3 k1 k2 (by lia);refine⟨_,_,rfl,?_,f,.fz (pN j),s',B,rfl,r1,r2,by lia,λ_=>r4⟩;rw[nm_body];exact(Qhn e1).trans ((Qhn e2).trans ((Qhn e3).trans e4)))
 rw[show([.str "by",.str "lot",.str "why",.str "tell",.str "drop",.str "book",.str "ranks",.str "camps",.str "flaw",.str "stands",.str "yes",.str "no"]:List PV)=Qda.map .str from rfl,show([]:List PV)=([]:List Str).map .str from rfl,e];walk_at "ev";exact⟨names,rfl,k1,k2,by lia,J h1⟩
def v_okv{x:Rw}(h:x.Ok):okv x.v=true:=by
 cases x with
 |g a b=>simp[Rw.v,okv,dep,depL,okS,okSL,YZ h.1.low,YZ h.2.low,Zw]
 |r H b =>
  have f:=QaN λs j=>YZ (h.2.1 s j).low;simp[Rw.v,okv,dep,depL,okS,okSL,YZ h.1.low,Qbh,f]
def Qhu{x:Rw}{R:List Rw}(l:x.Ok)(B:∀y∈R,y.Ok):∃b,ZR x.v (.lst (R.map Rw.v))=some (.bl b)/\(b=true->x∉R):=by
 have h1:(R.map Rw.v).all okv=true:=by
  rw[dM,bf];intro y j;exact v_okv (B y j)
 refine⟨!((R.map Rw.v).any λy=>peq y x.v),XF (au ⟨v_okv l,h1⟩),λf hm=>?_⟩;have:((R.map Rw.v).any λy=>peq y x.v)=true:=by
  rw[f9,bY];exact⟨x,hm,QbZ _⟩
 rw[this]at f;cases f
def sim_symm{x y:Rw}(h:x.sim y):y.sim x:=by
 cases x<;>cases y
 .exact Eq.symm h
 .cases h
 .cases h
 .exact⟨h.1.symm,h.2.symm⟩
def ev_sIns{ms:List Nat}{i:Nat}{mk m:MEx}{f:PEnv}{xs:List PV}(h:f[i]?=some (.ow xs)):sIns ms i mk m f=(mk f).bind λj=>(m f).bind λr=>insK ms i f xs r j:=by
 delta sIns;rw[h]
def QlS(s:Str):QA [s]=[s]:=(Xd (List.Perm.refl [s]) (by simp)).symm
structure RI (names:List Str) (g n:Nat) (R:List Rw):Prop where
 ok:∀x∈R,x.Ok
 ws:∀x∈R,∀w∈x.ws,w∈names
 gh:∀a b,Rw.g a b∈R->a∈names.take g
 rh:∀h b,Rw.r h b∈R->h∈names.drop g/\b.length<=1
 pw:R.Pairwise λx y=>¬x.sim y
 len:R.length<=n
def sim_eq{h k:Str}{b c:List Str}(f:b.length<=1)(hc:c.length<=1)(s:(Rw.r h b).sim (Rw.r k c)):Rw.r h b=Rw.r k c:=by
 have one:∀{l:List Str},l.length<=1->QA l=l:=λ{l} hl=>by
  match l,hl with
  |[],_=>exact(Xd (List.Perm.refl []) (by simp)).symm
  |[x],_=>exact QlS x
 obtain⟨e1,e2⟩:=s;rw[one f,one hc]at e2;rw[e1,e2]
def RI.snoc{names:List Str}{g n:Nat}{R:List Rw}(I:RI names g n R)(D:names.Nodup)(hw:∀s∈names,Wd s)(l:g<names.length){b:Str}(B:b∈names)(h0:∀x∈R,x.isG=true):RI names (g+1) (n+1) (R++[Rw.g names[g] b]):=by
 have hm:names[g]∈names:=bi l;have E:names[g]∉names.take g:=λz=>by
  have h2:names.take g++names.drop g=names:=io g names;have j:=D;rw[<-h2]at j;refine(gB.mp j).2.2 _ z _ ?_ rfl;rw[b7 l];exact bB
 refine⟨λx f=>?_,λx f w h=>?_,λa c f=>?_,λh c f=>?_,?_,by rw[aO];have:=I.len;simp;omega⟩
 .rcases aP.mp f with z | z
  .exact I.ok x z
  .rw[al.mp z];exact⟨hw _ hm,hw _ B⟩
 .rcases aP.mp f with z | z
  .exact I.ws x z w h
  .rw[al.mp z]at h;simp[Rw.ws]at h;rcases h with rfl | rfl
   .exact hm
   .exact B
 .rcases aP.mp f with z | z
  .rw[lR];exact cy _ (I.gh a c z)
  .cases al.mp z;rw[lR,aR l];exact aV _ (by simp)
 .rcases aP.mp f with z | z
  .cases h0 _ z
  .cases al.mp z
 .refine fO.mpr ⟨I.pw,by simp,λx f y H=>?_⟩;rw[al.mp H];cases x with
  |g a c=>intro e;exact E (e▸I.gh a c f)
  |r h c=>exact id
def RI.ins{names:List Str}{g n:Nat}{R:List Rw}(I:RI names g n R)(hw:∀s∈names,Wd s){h:Str}{b:List Str}(l:h∈names.drop g)(J:∀w∈b,w∈names)(hl:b.length<=1)(L:Rw.r h b∉R)(k:Nat):RI names g (n+1) (R.take k++Rw.r h b::R.drop k):=by
 have B:(R.take k++Rw.r h b::R.drop k).Perm (Rw.r h b::R):=by
  refine List.perm_middle.trans (.cons _ ?_);rw[io]
 have hm:∀{x},x∈R.take k++Rw.r h b::R.drop k->x=Rw.r h b\/x∈R:=λf=>ap.mp (B.mem_iff.mp f);have D:(Rw.r h b).Ok:=⟨hw _ (fP l),λs M=>hw _ (J s M),by rcases b with _|⟨x,_ | _⟩;exact .nil;simp;simp at hl,by lia⟩
 refine⟨λx f=>?_,λx f w j=>?_,λa c f=>?_,λO c f=>?_,?_,?_⟩
 .rcases hm f with rfl | z
  .exact D
  .exact I.ok x z
 .rcases hm f with rfl | z
  .rcases ap.mp j with rfl | z
   .exact fP l
   .exact J w z
  .exact I.ws x z w j
 .rcases hm f with e | z
  .cases e
  .exact I.gh a c z
 .rcases hm f with e | z
  .cases e;exact⟨l,hl⟩
  .exact I.rh O c z
 .refine(B.pairwise_iff λ{x y}(E:¬x.sim y) z=>E (sim_symm z)).mpr (cx.mpr ⟨λy H s=>?_,I.pw⟩);cases y with
  |g a c=>cases s
  |r T c=>exact L (sim_eq hl (I.rh T c H).2 s▸H)
 .have:=B.length_eq;have:=I.len;simp at *;lia
def RI.gd{names:List Str}{g n:Nat}{R:List Rw}(I:RI names g n R)(D:names.Nodup)(hl:names.length<=30)(L:n<=8)(M:g<=2):Gd R names:=by
 have E:=I.len;have f:(GN (R.filterMap Rw.gp)).length<=2:=by
  refine aS (Qcj (m:=names.take g) (gnd0 I.pw) λa H=>?_) (by rw[dO];lia);obtain⟨p,j,rfl⟩:=aU.mp H;obtain⟨x,l,e⟩:=bw.mp j;cases x with
  |g a b=>cases e;exact I.gh _ _ l
  |r h b=>cases e
 delta GN at f;rw[ai]at f;refine⟨I.ok,I.pw,f,aS (gJ _ _) (by lia),hl,I.ws,λp j B=>?_⟩;obtain⟨x,l,e⟩:=bw.mp j;obtain⟨q,B,e2⟩:=aU.mp B;obtain⟨y,J,e3⟩:=bw.mp B;cases x with
 |g a b=>cases e
 |r h b =>
  cases e;cases y with
  |r a c=>cases e3
  |g a c =>
   cases e3;have h1:=I.gh a c J;have h2:=(I.rh h b l).1;have e2:a=h:=e2;subst e2;rw[<-io g names]at D;exact(gB.mp D).2.2 a h1 a h2 rfl
def insK_n{ms:List Nat}{i:Nat}{f:PEnv}{xs:List PV}{r:PV}{j:Nat}(h:j<=xs.length)(h2:xs.length<=1000)(l:(flat r || !ms.contains i)=true):insK ms i f xs r (pN j)=some (.nx ((Qx (flat r) ms f).set i (.ow (xs.take j++r::xs.drop j)))):=by
 show(if 0<=(j:Int)/\(j:Int)<=xs.length/\xs.length<=1000/\(flat r || !ms.contains i)=true then some (Out.nx ((Qx (flat r) ms f).set i (.ow (xs.take (j:Int).toNat++r::xs.drop (j:Int).toNat)))) else none)=_;rw[au ⟨by lia,by lia,h2,l⟩,c9]
def Qdb{names:List Str}{i:Nat}(h:i<names.length):(names.map PV.str)[i]?=some (.str names[i]):=by rw[aT,aR h];rfl
def rows1{q:PV}{E:List PV}{names:List Str}{g j:Nat}{R:List Rw}{s5 s6 s7 s8:mQ}(hE:Dr E 30)(B:names.Nodup)(hw:∀s∈names,Wd s)(hj:j<names.length)(h2:j<2)(I:RI names j j R)(h0:∀x∈R,x.isG=true) :
  ∃f,Yd [.fz q,.fz (.lst E),.fz (.lst (names.map .str)),.fz (pN g),.ow (R.map Rw.v),.fz (pN j),s6,s7,s8]=some (.nx [.fz q,.fz (.lst E),.fz (.lst (names.map .str)),.fz (pN g),.ow (f.map Rw.v),.fz (pN j),s6,s7,s8])/\RI names (j+1) (j+1) f/\∀x∈f,x.isG=true:=by
 obtain⟨d,gd⟩:=hE.2 (2+j) (by lia);have hm:d%names.length<names.length:=bA _ (by lia);have l:=I.len;delta Yd;walk_at "ev";rw[Qdb hj];walk_at "ev";rw[gd];walk_at "ev";rw[Qdb hm];walk_at "ev";rw[Zt (by rw[ai];lia) rfl];refine⟨R++[Rw.g names[j] names[d%names.length]],by rw[bF];rfl,I.snoc B hw hj (bi hm) h0,λx D=>?_⟩;rcases aP.mp D with z | z
 .exact h0 x z
 .rw[al.mp z];rfl
def QlQ(b:Str){i:Nat}(h:i<3):∃l:List Str,([.tup [],.tup [.str b],.tup [.str b]]:List PV)[i]?=some (.tup (l.map .str))/\l.length<=1/\∀w∈l,w=b:=by
 match i,h with
 |0,_=>exact⟨[],rfl,by simp,by simp⟩
 |1,_=>exact⟨[b],rfl,by simp,by simp⟩
 |2,_=>exact⟨[b],rfl,by simp,by simp⟩
def rows2{q:PV}{E:List PV}{names:List Str}{g j n:Nat}{R:List Rw}{s5 s6 s7 s8:mQ}(hE:Dr E 30)(hw:∀s∈names,Wd s)(h9:names.length<=9)(hj:j<5)(av:n<=20)(I:RI names g n R) :
  ∃M t6 t7 t8,Yc [.fz q,.fz (.lst E),.fz (.lst (names.map .str)),.fz (pN g),.ow (R.map Rw.v),.fz (pN j),s6,s7,s8]=some (.nx [.fz q,.fz (.lst E),.fz (.lst (names.map .str)),.fz (pN g),.ow (M.map Rw.v),.fz (pN j),t6,t7,t8])/\RI names g (n+1) M:=by
 have O:=I.len;delta Yc;walk_at "ev";by_cases T:g<names.length
 .rw[a8 T];obtain⟨B,g1⟩:=hE.2 (5+j) (by lia);obtain⟨U,g2⟩:=hE.2 (10+j) (by lia);obtain⟨d3,g3⟩:=hE.2 (15+j) (by lia);obtain⟨H,g4⟩:=hE.2 (20+j) (by lia);have J:B%(names.length-g)<names.length-g:=bA _ (by lia);have f:g+B%(names.length-g)<names.length:=by lia
  have D:U%names.length<names.length:=bA _ (by lia);walk_at "ev";rw[g1];walk_at "ev";rw[Qdb f];walk_at "ev";rw[g2];walk_at "ev";rw[Qdb D];walk_at "ev";rw[g3];walk_at "ev";obtain⟨l,el,l1,l2⟩:=QlQ names[U%names.length] (i:=d3%3) (bA _ (by decide));rw[el];have hh:names[g+B%(names.length-g)]∈names.drop g:=by
   rw[dB];exact⟨B%(names.length-g),by rw[dr];exact J,by rw[lS]⟩
  have Y:∀w∈l,w∈names:=λw hw=>l2 w hw▸bi D;have L:(Rw.r names[g+B%(names.length-g)] l).Ok:=⟨hw _ (bi f),λs hs=>hw _ (Y s hs),by rcases l with _|⟨x,_ | _⟩;exact .nil;simp;simp at l1,by lia⟩
  obtain⟨bb,e1,e2⟩:=Qhu L I.ok;have e1:ZR (.tup [.str "rule",.str names[g+B%(names.length-g)],.tup (l.map .str)]) (.lst (R.map Rw.v))=some (.bl bb):=e1;walk_at "ev";rw[e1];cases bb with
  |false =>
   walk_at "ev";exact⟨R,_,_,_,rfl,I.ok,I.ws,I.gh,I.rh,I.pw,by lia⟩
  |true =>
   walk_at "ev";rw[ev_sIns (xs:=R.map Rw.v) rfl];walk_at "ev";rw[g4];have hk:H%(R.length+1)<R.length+1:=bA _ (by lia);walk_at "ev";rw[insK_n (by rw[ai];lia) (by rw[ai];lia) rfl];walk_at "ev";exact⟨R.take (H%(R.length+1))++Rw.r names[g+B%(names.length-g)] l::R.drop (H%(R.length+1)),_,_,_,by rw[bF,List.map_take,ba,iM];rfl,I.ins hw hh Y l1 (e2 rfl) _⟩
 .rw[aX T];walk_at "ev";refine⟨R,_,_,_,rfl,I.ok,I.ws,I.gh,I.rh,I.pw,by lia⟩
def e_lrows(ns:List Int):∃(R:List Rw)(names:List Str),Yu [.lst (ns.map .int)]=some (.lst (R.map Rw.v))/\Gd R names/\R.length<=6:=by
 obtain⟨E,ed,hE⟩:=e_dr (ns.getD 1 0) (n:=30) (by decide);obtain⟨O,g0⟩:=hE.2 0 (by decide);obtain⟨T,g1⟩:=hE.2 1 (by decide);obtain⟨U,g4⟩:=hE.2 4 (by decide);have av:O%9<9:=bA _ (by decide);have az:T%3<3:=bA _ (by decide);have aq:U%5<5:=bA _ (by decide);obtain⟨names,en,Y,hw,h9,h1⟩:=e_lnames (ns.getD 0 0) (size:=1+O%9) (by lia) (by lia);delta Yu;walk_at "ev";rw[e_cell];walk_at "ev";rw[ed];walk_at "ev";rw[e_cell];walk_at "ev";rw[g0];walk_at "ev";rw[en];walk_at "ev";rw[g1];walk_at "ev";generalize hg:min (T%3) names.length=g at *;have H:g<=2:=by lia
 have aj:g<=names.length:=by lia
 obtain⟨J,e,R,s5,rfl,I,hI⟩:=Qdj (g:=gSet 5) (b:=Yd) (λj f=>∃(R:List Rw)(s5:mQ),f=[.fz (.lst (ns.map .int)),.fz (.lst E),.fz (.lst (names.map .str)),.fz (pN g),.ow (R.map Rw.v),s5,.un,.un,.un]/\RI names j j R/\∀x∈R,x.isG=true)
  g [.fz (.lst (ns.map .int)),.fz (.lst E),.fz (.lst (names.map .str)),.fz (pN g),.ow (([]:List Rw).map Rw.v),.un,.un,.un,.un] ⟨[],.un,rfl,⟨(λx h=>nomatch h),(λx h=>nomatch h),(λa b h=>nomatch h),(λa b h=>nomatch h),.nil,aB _⟩,λx h=>nomatch h⟩ (by
   rintro j f hj ⟨R,s5,rfl,I,hI⟩;obtain⟨L,e1,M,h'⟩:=rows1 (q := .lst (ns.map .int)) (g:=g) (s5:=s5) (s6 := .un) (s7 := .un) (s8 := .un) hE Y hw (by lia) (by lia) I hI;exact⟨_,_,rfl,e1,L,.fz (pN j),rfl,M,h'⟩)
 rw[show([]:List PV)=([]:List Rw).map Rw.v from rfl,e];walk_at "ev";rw[g4];walk_at "ev";generalize U%5=m at *;obtain⟨J,e,R,s5,l,B,D,rfl,I⟩:=Qdj (g:=gSet 5) (b:=Yc) (λj f=>∃(R:List Rw)(s5 l B D:mQ),f=[.fz (.lst (ns.map .int)),.fz (.lst E),.fz (.lst (names.map .str)),.fz (pN g),.ow (R.map Rw.v),s5,l,B,D]/\RI names g (g+j) R)
  m [.fz (.lst (ns.map .int)),.fz (.lst E),.fz (.lst (names.map .str)),.fz (pN g),.ow (R.map Rw.v),s5,.un,.un,.un] ⟨R,s5,.un,.un,.un,rfl,I⟩ (by
   rintro j f hj ⟨R,s5,l,B,D,rfl,I⟩;obtain⟨L,u6,u7,u8,e1,M⟩:=rows2 (q := .lst (ns.map .int)) (j:=j) (s5:=s5) (s6:=l) (s7:=B) (s8:=D) hE hw h9 (by lia) (by lia) I;exact⟨_,_,rfl,e1,L,.fz (pN j),u6,u7,u8,rfl,M⟩)
 rw[e];walk_at "ev";exact⟨R,names,rfl,I.gd Y (by lia) (by lia) H,by have:=I.len;lia⟩
abbrev knR(R:List Rw):List Str:=R.flatMap Rw.ws
def kn_len{R:List Rw}(ok:∀x∈R,x.Ok):(knR R).length<=R.length*7:=Xo λx f=>Qnr (ok x f)
def known1{R:List Rw}{q:PV}{s2:mQ}{acc:List Str}{x:Rw}(h:x.Ok)(hl:acc.length<=700):∃f,ZD [.fz q,.ow (acc.map .str),.fz x.v]=some (.nx [.fz q,.ow ((acc++x.ws).map .str),f]):=by
 cases x with
 |g a b =>
  delta ZD Rw.v;walk_at "ev";rw[Zt (by rw[ai];lia) rfl];walk_at "ev";rw[Xt Zw Zw,show(("guess":Str)=="guess")=true by simp];walk_at "ev";rw[Zt (by rw[aO,ai];simp;lia) rfl];exact⟨_,by simp[Rw.ws];rfl⟩
 |r H b =>
  have j:=h.2.2.2;delta ZD Rw.v;walk_at "ev";rw[Zt (by rw[ai];lia) rfl];walk_at "ev";rw[Xt Qbh Zw,Qho];walk_at "ev";have kk:∀(B:Bool)(a c:PV)(xs ys:List PV),List.set (Qx B [1,2] [.fz a,.ow xs,.fz c]) 1 (.ow ys)=[.fz a,.ow ys,.fz c]:=by intro B a c xs ys;cases B<;>rfl
  rw[kk];exact⟨_,by simp[Rw.ws];rfl⟩
def Qlt{R:List Rw}(ok:∀x∈R,x.Ok)(hl:R.length<=50):Yi [.lst (R.map Rw.v)]=some (.lst ((knR R).map .str)):=by
 delta Yi;walk_at "ev";obtain⟨l,e,s2,rfl⟩:=ZL (g:=gSet 2) (b:=ZD) Rw.v (λpre j=>∃s2,j=[.fz (.lst (R.map Rw.v)),.ow ((knR pre).map .str),s2]) R R [] [.fz (.lst (R.map Rw.v)),.ow (([]:List Str).map .str),.un] rfl ⟨.un,rfl⟩ (by
  rintro pre x post j f ⟨s2,rfl⟩;have B:x∈R:=by rw[<-f];simp
  have H:pre.length<=50:=by have:=congrArg ee f;simp at this;lia
  have I:=kn_len (R:=pre) λy D=>ok y (by rw[<-f];simp[D]);obtain⟨E,e1⟩:=known1 (R:=R) (q := .lst (R.map Rw.v)) (s2:=s2) (acc:=knR pre) (ok x B) (by lia);refine⟨_,_,rfl,e1,E,?_⟩;delta knR;rw[lc];simp)
 rw[show([]:List PV)=([]:List Str).map .str from rfl,e];walk_at "ev"
def kn_nm{R:List Rw}{w:Str}:w∈knR R↔w∈nmR R:=⟨λh=>QeW (QaJ.mp h),λh=>QaJ.mpr (Qkk h)⟩
def Tx(n:Nat)(s:Str):Prop:=Asc s/\s.length<=n
def Xy{s:Str}(h:Low s):Asc s:=λc hc=>by have:=h c hc;lia
def Tx.up{m n:Nat}{s:Str}(h:Tx m s)(hm:m<=n):Tx n s:=⟨h.1,by have:=h.2;lia⟩
def Tx.app{m n:Nat}{s t:Str}(h1:Tx m s)(h2:Tx n t):Tx (m+n) (s++t):=⟨asc_app h1.1 h2.1,by rw[Zb];have:=h1.2;have:=h2.2;lia⟩
def Tx.slice{n:Nat}{s:Str}(h:Tx n s)(lo f:Option Int):Tx n (cg s lo f):=⟨λc hc=>h.1 c (QcF _ _ _ hc),aS (QaR _ _ _) h.2⟩
def wd_tx{s:Str}(h:Wd s):Tx 12 s:=⟨Xy h.low,h.l2⟩
def ascB(n:Nat)(s:Str):Bool:=s.cps.toList.all (λc=>decide (c<128))&&decide (s.length<=n)
def Qhd{n:Nat}{s:Str}(h:ascB n s=true):Tx n s:=by
 delta ascB at h;rw[aN]at h;exact⟨λc hc=>bC (bf.mp h.1 c hc),bC h.2⟩
def QkO{z:Str}{n:Nat}(hz:Tx n z)(l:n<=9000){k:Nat}(B:k<z.length):∃w,pIx (.str z) (pN k)=some (.str w)/\Tx 1 w:=by
 have j:z.cps.toList.length=z.length:=by simp[cw]
 have f:k<z.cps.toList.length:=by lia
 have:=hz.2;refine⟨⟨#[z.cps.toList[k]]⟩,?_,λc hc=>?_,aB 1⟩
 .show(if z.length<=LIM then (atI z.cps.toList (k:Int)).map (λc=>PV.str ⟨#[c]⟩) else none)=_;rw[au (Zh (by lia)),Qlz (aR f)];rfl
 .have:c=z.cps.toList[k]:=by simpa using hc
  rw[this];exact hz.1 _ (bi f)
def QbO{m n:Nat}{s t:Str}(h1:Tx m s)(h2:Tx n t)(h:m+n<=9000):pAdd (.str s) (.str t)=some (.str (s++t)):=pAdd_s (by have:=h1.2;have:=h2.2;lia)
def get3{n:Nat}{a b c:Str}(f:Tx n a)(l:Tx n b)(hc:Tx n c){i:Nat}(h:i<3):∃s,([.str a,.str b,.str c]:List PV)[i]?=some (.str s)/\Tx n s:=by
 match i,h with
 |0,_=>exact⟨a,rfl,f⟩
 |1,_=>exact⟨b,rfl,l⟩
 |2,_=>exact⟨c,rfl,hc⟩
def e_near{E:List PV}{K:List Str}(hE:Dr E 40)(hK:∀s∈K,Wd s)(hl:K.length<=700):∃s,QT [.lst E,.lst (K.map .str)]=some (.str s)/\Tx 30 s:=by
 obtain⟨D,M⟩:=hE.2 22 (by decide);obtain⟨H,I⟩:=hE.2 23 (by decide);obtain⟨f,J⟩:=hE.2 24 (by decide);obtain⟨L,T⟩:=hE.2 25 (by decide);have O:L%26<26:=bA _ (by decide);have av:f%12<12:=bA _ (by decide);have fresh:∃s,QI [pN H,pN (1+f%12)]=some (.str s)/\Tx 30 s:=by
  obtain⟨s,e,l,lo⟩:=QgK H (size:=1+f%12) (by lia);exact⟨s,e,Xy lo,by lia⟩
 delta QT;walk_at "ev";cases hk:K.length==0 with
 |true =>
  walk_at "ev";rw[I];walk_at "ev";rw[J];walk_at "ev";obtain⟨s,e,h⟩:=fresh;rw[e];exact⟨s,rfl,h⟩
 |false =>
  have U:0<K.length:=iP λz=>by rw[z]at hk;cases hk
  walk_at "ev";rw[M];walk_at "ev";cases h0:D%4==0 with
  |true =>
   walk_at "ev";rw[I];walk_at "ev";rw[J];walk_at "ev";obtain⟨s,e,h⟩:=fresh;rw[e];exact⟨s,rfl,h⟩
  |false =>
   walk_at "ev";rw[I];have hm:H%K.length<K.length:=bA _ U;walk_at "ev";rw[Qdb hm];have hw:=hK _ (bi hm);have az:=hw.l1;have aq:=hw.l2;have j:=wd_tx hw;generalize K[H%K.length]=w at *;walk_at "ev";rw[J];walk_at "ev";rw[T];walk_at "ev";rw[Qek O];have B:Tx 1 (⟨#[97+L%26]⟩:Str):=⟨Xy (low1 O),aB 1⟩
   generalize (⟨#[97+L%26]⟩:Str)=c at *;walk_at "ev";have t1:=j.slice none (some (-((1:Nat):Int)));have Y:=j.slice none (some ((f%w.length:Nat):Int));have t3:=j.slice (some ((f%w.length+1:Nat):Int)) none;rw[QbO j B (by decide),QbO Y B (by decide)];walk_at "ev";rw[QbO (Y.app B) t3 (by decide)];walk_at "ev";rw[M];have aj:D%4<4:=bA _ (by decide);have ak:1<=D%4:=iP λz=>by rw[z]at h0;cases h0
   walk_at "ev";obtain⟨s,e,h⟩:=get3 (t1.up (show 12<=30 by decide)) ((j.app B).up (show _<=30 by decide)) (((Y.app B).app t3).up (show _<=30 by decide)) (i:=D%4-1) (by lia);rw[e];exact⟨s,rfl,h⟩
noncomputable def vbs:List Str:=["lot","why","flaw","ranks","camps","book","why","flaw","lot","camps","tell","drop"]
noncomputable def oth:List Str:=["guess","unless","if","","abcdefghijklm","a1","Ab","a\nb","by","by","zzzzzzzzzzzz"]
def vbs_ok:∀s∈vbs,ascB 10 s=true:=by decide+kernel
def oth_ok:∀s∈oth,ascB 30 s=true:=by decide+kernel
def tx_get{L:List Str}{n:Nat}(h:∀s∈L,ascB n s=true){i:Nat}(f:i<L.length):∃s,(L.map PV.str)[i]?=some (.str s)/\Tx n s:=⟨_,Qdb f,Qhd (h _ (bi f))⟩
def QlD:ascB 28 "abcdefghijklmnopqrstuvwxyzL!"=true/\("abcdefghijklmnopqrstuvwxyzL!":Str).length=28:=by decide+kernel
def Qkb:ascB 40 "ABZ019 -_'.,;!?{}()\n\nabcz  "=true/\0<("ABZ019 -_'.,;!?{}()\n\nabcz  ":Str).length:=by decide+kernel
def fwT:MSt:=(sSeq (sSet [0,3] 4 (bin2 pMod (bin2 pIx (mVar 0) (mN 28)) (bin2 pAdd (Qc pLen (Qa (mVar 3) aNil)) (mN 1))))
 (sSeq (sSet [0] 5 (bin2 pIx (mC (.str "abcdefghijklmnopqrstuvwxyzL!")) (bin2 pMod (bin2 pIx (mVar 0) (mN 29)) (mN 28))))
 (sRet (bin2 pAdd (bin2 pAdd (sl3 ZV (mVar 3) mNo (mSo (mVar 4))) (bin2 pIx (mLst (mLim (Qa (mVar 5) (Qa (mC (.str "")) (Qa (mVar 5) aNil))))) (bin2 pMod (bin2 pIx (mVar 0) (mN 27)) (mN 3)))) (sl3 ZV (mVar 3) (mSo (bin2 pAdd (mVar 4) (bin2 pMod (bin2 pIx (mVar 0) (mN 30)) (mN 2)))) mNo)))))
def fwT_ok{E:List PV}{q:PV}{xs:List PV}{v:Str}(hE:Dr E 40)(l:Tx 10 v):∃s,fwT [.fz (.lst E),.fz q,.ow xs,.fz (.str v),.un,.un]=some (.rt (.str s))/\Tx 30 s:=by
 obtain⟨j,B⟩:=hE.2 27 (by decide);obtain⟨f,D⟩:=hE.2 28 (by decide);obtain⟨H,I⟩:=hE.2 29 (by decide);obtain⟨J,L⟩:=hE.2 30 (by decide);have T:=l.2;delta fwT;walk_at "ev";rw[D];walk_at "ev";rw[I];walk_at "ev";obtain⟨w,U,hw⟩:=QkO (Qhd QlD.1) (by decide) (k:=H%28) (by rw[QlD.2];exact bA _ (by decide));rw[U];walk_at "ev";have t1:=l.slice none (some ((f%(v.length+1):Nat):Int));obtain⟨u,Y,M⟩:=get3 hw (Qhd (n:=1) (s := "") (by decide+kernel)) hw (i:=j%3) (bA _ (by decide));rw[B];walk_at "ev";rw[Y];walk_at "ev";rw[QbO t1 M (by decide)];walk_at "ev";rw[L];walk_at "ev";have O:=l.slice (some ((f%(v.length+1)+J%2:Nat):Int)) none;rw[QbO (t1.app M) O (by decide)];exact⟨_,rfl,((t1.app M).app O).up (by decide)⟩
def e_first{E:List PV}{K:List Str}(hE:Dr E 40)(hK:∀s∈K,Wd s)(hl:K.length<=700):∃s,QG [.lst E,.lst (K.map .str)]=some (.str s)/\Tx 30 s:=by
 obtain⟨T,U⟩:=hE.2 0 (by decide);obtain⟨f,j⟩:=hE.2 26 (by decide);obtain⟨l,B⟩:=hE.2 27 (by decide);obtain⟨D,H⟩:=hE.2 28 (by decide);obtain⟨v,Y,I⟩:=tx_get vbs_ok (i:=T%12) (show _<12 from bA _ (by decide));have av:=I.2;rw[show QG=runV 6 2 (sSeq (Qm [] 2 (mLim (Qa (mC (.str "lot")) (Qa (mC (.str "why")) (Qa (mC (.str "flaw")) (Qa (mC (.str "ranks")) (Qa (mC (.str "camps")) (Qa (mC (.str "book")) (Qa (mC (.str "why")) (Qa (mC (.str "flaw")) (Qa (mC (.str "lot")) (Qa (mC (.str "camps")) (Qa (mC (.str "tell")) (Qa (mC (.str "drop")) aNil))))))))))))))
  (sSeq (sSet [2,0] 3 (bin2 pIx (mVar 2) (bin2 pMod (bin2 pIx (mVar 0) (mN 0)) (mN 12))))
  (sSeq (sIf (truB (bin2 pGt (bin2 pMod (bin2 pIx (mVar 0) (mN 26)) (mN 6)) (mN 0))) (Yr 3) sNx)
  (sSeq (sIf (bAnd (truB (bin2 pGt (Qc pLen (Qa (mVar 1) aNil)) (mN 0))) (truB (bin2 pEq (bin2 pMod (bin2 pIx (mVar 0) (mN 27)) (mN 3)) (mN 0)))) (sRet (bin2 pIx (mVar 1) (bin2 pMod (bin2 pIx (mVar 0) (mN 28)) (Qc pLen (Qa (mVar 1) aNil))))) sNx) fwT)))) from rfl]
 walk_at "ev";rw[U];walk_at "ev";rw[show([.str "lot",.str "why",.str "flaw",.str "ranks",.str "camps",.str "book",.str "why",.str "flaw",.str "lot",.str "camps",.str "tell",.str "drop"]:List PV)=vbs.map .str from rfl,Y];walk_at "ev";rw[j];walk_at "ev";by_cases L:0<f%6
 .rw[a8 L];walk_at "ev";exact⟨v,rfl,I.up (by decide)⟩
 .rw[aX L];walk_at "ev";obtain⟨t,M,O⟩:=fwT_ok (q := .lst (K.map .str)) (xs:=vbs.map .str) hE I;by_cases J:0<K.length
  .rw[a8 J];walk_at "ev";rw[B];walk_at "ev";cases c3:l%3==0 with
   |true =>
    walk_at "ev";rw[H];have hm:D%K.length<K.length:=bA _ J;walk_at "ev";rw[Qdb hm];exact⟨_,rfl,(wd_tx (hK _ (bi hm))).up (by decide)⟩
   |false =>
    walk_at "ev";rw[M];exact⟨t,rfl,O⟩
  .rw[aX J];walk_at "ev";rw[M];exact⟨t,rfl,O⟩
def sgT:MSt:=(sSeq (sSet [2,1,2] 4 (bin2 pIx (mVar 2) (bin2 pMod (bin2 pIx (mVar 1) (mN 33)) (Qc pLen (Qa (mVar 2) aNil)))))
 (sRet (bin2 pAdd (bin2 pAdd (sl3 ZV (mVar 0) mNo (mSo (mVar 3))) (mVar 4)) (sl3 ZV (mVar 0) (mSo (bin2 pAdd (mVar 3) (bin2 pMod (bin2 pIx (mVar 1) (mN 34)) (mN 2)))) mNo))))
def sgT_ok{E:List PV}{L:Str}(hE:Dr E 40)(f:Tx 400 L)(a:Nat):∃s,sgT [.fz (.str L),.fz (.lst E),.fz (.str "ABZ019 -_'.,;!?{}()\n\nabcz  "),.fz (pN a),.un]=some (.rt (.str s))/\Tx 801 s:=by
 obtain⟨j,l⟩:=hE.2 33 (by decide);obtain⟨B,D⟩:=hE.2 34 (by decide);have hl:=f.2;have I:=Qkb.2;delta sgT;walk_at "ev";rw[l];walk_at "ev";obtain⟨w,J,hw⟩:=QkO (Qhd Qkb.1) (by decide) (k:=j%("ABZ019 -_'.,;!?{}()\n\nabcz  ":Str).length) (bA _ Qkb.2);rw[J];walk_at "ev";have t1:=f.slice none (some (a:Int));rw[QbO t1 hw (by decide)];walk_at "ev";rw[D];walk_at "ev";have H:=f.slice (some ((a+B%2:Nat):Int)) none;rw[QbO (t1.app hw) H (by decide)];exact⟨_,rfl,((t1.app hw).app H)⟩
def e_signed{E:List PV}{L:Str}(hE:Dr E 40)(f:Tx 400 L):∃s,QO [.str L,.lst E]=some (.str s)/\Tx 801 s:=by
 obtain⟨j,l⟩:=hE.2 31 (by decide);obtain⟨B,D⟩:=hE.2 32 (by decide);have hl:=f.2;rw[show QO=runV 5 2 (sSeq (sSet [] 2 (mC (.str "ABZ019 -_'.,;!?{}()\n\nabcz  ")))
  (sSeq (sSet [1,0] 3 (bin2 pMod (bin2 pIx (mVar 1) (mN 31)) (bin2 pAdd (Qc pLen (Qa (mVar 0) aNil)) (mN 1))))
  (sSeq (sIf (truB (bin2 pEq (bin2 pMod (bin2 pIx (mVar 1) (mN 32)) (mN 3)) (mN 0))) (sSet [0] 3 (Qc pLen (Qa (mVar 0) aNil))) sNx) sgT))) from rfl]
 walk_at "ev";rw[l];walk_at "ev";rw[D];walk_at "ev";cases c:B%3==0 with
 |true =>
  walk_at "ev";obtain⟨s,e,h⟩:=sgT_ok hE f L.length;rw[e];exact⟨s,rfl,h⟩
 |false =>
  walk_at "ev";obtain⟨s,e,h⟩:=sgT_ok hE f (j%(L.length+1));rw[e];exact⟨s,rfl,h⟩
section
open Builtin.Str StrLaws
def str_ext{a b:Str}(h:a.cps.toList=b.cps.toList):a=b:=by
 cases a with
 | mk x=>cases b with
  |mk y=>exact congrArg Str.mk (fK.mp h)
def Qib{L P:Str}(h:cT L P=true):P.length<=L.length/\cg L none (some (P.length:Int))=P:=by
 delta cT at h;rw[aN]at h;have h1:P.length<=L.length:=by have:=bC h.1;lia
 have h2:=h.2;rw[subAt_eq]at h2;refine⟨h1,str_ext ?_⟩;rw[s_lo L h1];have h2:=bg.mp h2;rw[gv]at h2;exact h2
def sw_no{L P:Str}{n:Nat}(f:P.length=n)(h:(cg L none (some (n:Int))==P)=false):cT L P=false:=by
 cases hc:cT L P with
 |false=>rfl
 |true =>
  have:=(Qib hc).2;rw[f]at this;rw[this]at h;simp at h
def Qic{L P:Str}(h:L.length<P.length):cT L P=false:=by
 cases hc:cT L P with
 |false=>rfl
 |true=>have:=(Qib hc).1;lia
structure Ask (L:Str):Prop where
 tx:Tx 801 L
 nt:cT L "tell "=false
 nd:cT L "drop "=false
def asT:MSt:=(sSeq (sIf (bOr (truB (bin2 pEq (sl3 ZV (mVar 8) mNo (mSo (mN 5))) (mC (.str "tell ")))) (truB (bin2 pEq (sl3 ZV (mVar 8) mNo (mSo (mN 5))) (mC (.str "drop "))))) (sRet (sl3 ZV (mVar 8) mNo (mSo (mN 4)))) sNx)
 (Yr 8))
def l5:("tell ":Str).length=5/\("drop ":Str).length=5:=by decide+kernel
def ok_tell:ar ("tell ":Str)=true:=by decide+kernel
def ok_drop:ar ("drop ":Str)=true:=by decide+kernel
def asT_ok{p0 p1 p2:PV}{s3 s4 s5 s6 s7:mQ}{L:Str}(l:Tx 801 L):∃s,asT [.fz p0,.fz p1,.fz p2,s3,s4,s5,s6,s7,.fz (.str L)]=some (.rt (.str s))/\Ask s:=by
 have hl:=l.2;have j:=(l.slice none (some ((5:Nat):Int))).1;have B:=l.slice none (some ((4:Nat):Int));have H:(cg L none (some ((4:Nat):Int))).length<=4:=by
  by_cases h:4<=L.length
  .rw[<-XQ,s_lo L h,dO];lia
  .have:=QaR L none (some ((4:Nat):Int));lia
 have f:Ask (cg L none (some ((4:Nat):Int))):=⟨B,Qic (by rw[l5.1];lia),Qic (by rw[l5.2];lia)⟩
 delta asT;walk_at "ev";rw[YH j ok_tell];cases D:cg L none (some ((5:Nat):Int))=="tell " with
 |true =>
  walk_at "ev";exact⟨_,rfl,f⟩
 |false =>
  walk_at "ev";rw[YH j ok_drop];cases E:cg L none (some ((5:Nat):Int))=="drop " with
  |true =>
   walk_at "ev";exact⟨_,rfl,f⟩
  |false =>
   walk_at "ev";exact⟨_,rfl,l,sw_no l5.1 D,sw_no l5.2 E⟩
abbrev asA:MSt:=(sSet [3,0,6] 7 (bin2 pIx (mVar 3) (bin2 pMod (bin2 pIx (mVar 0) (bin2 pAdd (mN 2) (mVar 6))) (mN 11))))
abbrev asB:MSt:=(sIf (truB (bin2 pEq (bin2 pMod (bin2 pIx (mVar 0) (bin2 pAdd (mN 12) (mVar 6))) (mN 8)) (mN 0))) (sSet [0,1] 7 (Qc QT (Qa (mVar 0) (Qa (mVar 1) aNil)))) (sIf (bAnd (truB (bin2 pGt (Qc pLen (Qa (mVar 1) aNil)) (mN 0))) (truB (bin2 pGt (bin2 pMod (bin2 pIx (mVar 0) (bin2 pAdd (mN 12) (mVar 6))) (mN 8)) (mN 1)))) (sSet [1,0,6,1] 7 (bin2 pIx (mVar 1) (bin2 pMod (bin2 pIx (mVar 0) (bin2 pAdd (mN 2) (mVar 6))) (Qc pLen (Qa (mVar 1) aNil))))) sNx))
abbrev asC:MSt:=(sIf (bAnd (truB (bin2 pEq (bin2 pIx (mVar 4) (mN 0)) (mC (.str "why")))) (bAnd (truB (bin2 pEq (mVar 6) (mN 1))) (truB (bin2 pGt (bin2 pMod (bin2 pIx (mVar 0) (mN 37)) (mN 4)) (mN 0))))) (sSet [] 7 (mC (.str "by"))) sNx)
def as_body:Zf=sSeq asA (sSeq asB (sSeq asC (sApp [7] 4 (mVar 7)))):=rfl
abbrev asG(E:List PV)(K:List Str)(q:PV)(j:Nat)(ws:List Str)(s5 s7 s8:mQ):PEnv:=[.fz (.lst E),.fz (.lst (K.map .str)),.fz q,.ow (oth.map .str),.ow (ws.map .str),s5,.fz (pN j),s7,s8]
section
def asA_ok{K:List Str}(hE:Dr E 40)(hj:j<9):∃w,asA (asG E K q j ws s5 s7 s8)=some (.nx (asG E K q j ws s5 (.fz (.str w)) s8))/\Tx 30 w:=by
 obtain⟨f,l⟩:=hE.2 (2+j) (by lia);obtain⟨w,e,h⟩:=tx_get oth_ok (i:=f%11) (show _<11 from bA _ (by decide));delta asG;walk_at "ev";rw[l];walk_at "ev";rw[e];walk_at "ev";exact⟨w,rfl,h⟩
variable{E:List PV}{K:List Str}{q:PV}{j:Nat}{ws:List Str}{s5:mQ}{s8:mQ} in theorem asB_ok (hE:Dr E 40) (hj:j<9) (hK:∀s∈K,Wd s) (hl:K.length<=700) {w:Str} (hw:Tx 30 w):∃w',asB (asG E K q j ws s5 (.fz (.str w)) s8)=some (.nx (asG E K q j ws s5 (.fz (.str w')) s8))/\Tx 30 w':=by
 obtain⟨d1,g1⟩:=hE.2 (2+j) (by omega);obtain⟨d2,g2⟩:=hE.2 (12+j) (by omega);delta asG;walk_at "ev";rw[g2];walk_at "ev";cases c1:d2%8==0 with
 |true =>
  walk_at "ev";obtain⟨s,e,h⟩:=e_near hE hK hl;rw[e];walk_at "ev";exact⟨s,rfl,h⟩
 |false =>
  walk_at "ev";by_cases c2:0<K.length
  .rw[a8 c2];walk_at "ev";rw[g2];walk_at "ev";by_cases c3:1<d2%8
   .rw[a8 c3];walk_at "ev";rw[g1];have hm:d1%K.length<K.length:=bA _ c2;walk_at "ev";rw[Qdb hm];walk_at "ev";exact⟨_,rfl,(wd_tx (hK _ (bi hm))).up (by decide)⟩
   .rw[aX c3];walk_at "ev";exact⟨w,rfl,hw⟩
  .rw[aX c2];walk_at "ev";exact⟨w,rfl,hw⟩
def asC_ok{K:List Str}(hE:Dr E 40)(h0:0<ws.length)(f:∀s∈ws,Tx 30 s){w:Str}(hw:Tx 30 w):∃I,asC (asG E K q j ws s5 (.fz (.str w)) s8)=some (.nx (asG E K q j ws s5 (.fz (.str I)) s8))/\Tx 30 I:=by
 obtain⟨l,B⟩:=hE.2 37 (by lia);have D:Tx 30 ("by":Str):=Qhd (by decide+kernel);have H:=(f _ (bi h0)).1;delta asG;walk_at "ev";rw[Qdb h0];walk_at "ev";rw[YH H QeU];generalize (ws[0]=="why")=J;cases J with
 |false=>walk_at "ev";exact⟨w,rfl,hw⟩
 |true =>
  walk_at "ev";generalize (j==1)=L;cases L with
  |false=>walk_at "ev";exact⟨w,rfl,hw⟩
  |true =>
   walk_at "ev";rw[B];walk_at "ev";by_cases c:0<l%4
   .rw[a8 c];walk_at "ev";exact⟨_,rfl,D⟩
   .rw[aX c];walk_at "ev";exact⟨w,rfl,hw⟩
variable{E:List PV}{K:List Str}{q:PV}{j:Nat}{ws:List Str}{s5:mQ}{s7:mQ}{s8:mQ} in theorem asked1 (hE:Dr E 40) (hK:∀s∈K,Wd s) (hl:K.length<=700) (hj:j<9) (h0:0<ws.length) (hw:∀s∈ws,Tx 30 s) (hwl:ws.length<=20) :
  ∃w t7,Zf (asG E K q j ws s5 s7 s8)=some (.nx (asG E K q j (ws++[w]) s5 t7 s8))/\Tx 30 w:=by
 obtain⟨w1,e1,h1⟩:=asA_ok (K:=K) (q:=q) (ws:=ws) (s5:=s5) (s7:=s7) (s8:=s8) hE hj;obtain⟨w2,e2,h2⟩:=asB_ok (q:=q) (ws:=ws) (s5:=s5) (s8:=s8) hE hj hK hl h1;obtain⟨w3,e3,h3⟩:=asC_ok (K:=K) (q:=q) (j:=j) (s5:=s5) (s8:=s8) hE h0 hw h2;have e4:sApp [7] 4 (mVar 7) (asG E K q j ws s5 (.fz (.str w3)) s8)=some (.nx (asG E K q j (ws++[w3]) s5 (.fz (.str w3)) s8)):=by
  delta asG;walk_at "ev";rw[Zt (by rw[ai];omega) rfl];rw[bF];rfl
 rw[as_body];exact⟨w3,_,(Qhn e1).trans ((Qhn e2).trans ((Qhn e3).trans e4)),h3⟩
end
def join_tx{ws:List Str}(hw:∀s∈ws,Tx 30 s)(hl:ws.length<=9):Tx 400 (a5 " " ws)/\(ws.map cw).sum<=270:=by
 have l:(ws.map cw).sum<=ws.length*30:=by
  clear hl;induction ws with
  |nil=>simp
  |cons s ws f =>
   have:=(hw s (by simp)).2;have:=f λx j=>hw x (ax _ j);simp;lia
 refine⟨⟨λc hc=>?_,?_⟩,by lia⟩
 .rcases XR " " ws hc with z|⟨w,h,z⟩
  .have:c=32:=by
    rw[show(" ":Str).cps.toList=[32] by decide+kernel]at z;simpa using z
   lia
  .exact(hw w h).1 c z
 .rw[Qy,show(" ":Str).length=1 from rfl];lia
end
def line_tx{x:Rw}(h:x.Ok):Tx 400 x.line:=by
 refine⟨λc hc=>?_,by have:=(QaK h).2;lia⟩;have f:∀c∈sp.cps.toList,c<128:=by decide+kernel
 have j:∀s∈no3,∀c∈s.cps.toList,c<128:=by decide+kernel
 cases x with
 |g a b =>
  rcases XR sp _ hc with z|⟨w,hw,z⟩
  .exact f c z
  .simp at hw;rcases hw with rfl | rfl | rfl | rfl
   .exact j _ (by decide+kernel) c z
   .exact Xy h.1.low c z
   .exact j _ (by decide+kernel) c z
   .exact Xy h.2.low c z
 |r H b =>
  have hc:c∈(if b=[] then H else a5 sp (H::"if"::b)).cps.toList:=hc;by_cases l:b=[]
  .rw[au l]at hc;exact Xy h.1.low c hc
  .rw[aK l]at hc;rcases XR sp _ hc with z|⟨w,hw,z⟩
   .exact f c z
   .simp at hw;rcases hw with rfl | rfl | hw
    .exact Xy h.1.low c z
    .exact j _ (by decide+kernel) c z
    .exact Xy (h.2.1 _ hw).low c z
def e_asked{E:List PV}{R:List Rw}(hE:Dr E 40)(ok:∀x∈R,x.Ok)(hR:R.length<=50):∃L,Ya [.lst E,.lst ((knR R).map .str),.lst (R.map Rw.v)]=some (.str L)/\Ask L:=by
 have hK:∀s∈knR R,Wd s:=λs D=>by
  obtain⟨x,J,hw⟩:=fI.mp D;exact(ok x J).wd s hw
 have hl:(knR R).length<=700:=by have:=kn_len ok;lia
 generalize knR R=K at *;obtain⟨M,g1⟩:=hE.2 1 (by decide);obtain⟨l,O⟩:=hE.2 35 (by decide);obtain⟨B,U⟩:=hE.2 36 (by decide);obtain⟨H,I⟩:=hE.2 38 (by decide);obtain⟨Y,av⟩:=hE.2 39 (by decide);obtain⟨f,ef,hf⟩:=e_first hE hK hl;have aq:M%5+l%5/4*(B%5)<=8:=by
  have a1:M%5<5:=bA _ (by decide);have a2:l%5<5:=bA _ (by decide);have a3:B%5<5:=bA _ (by decide);have a4:l%5/4<=1:=by lia
  have:=Nat.mul_le_mul a4 (Nat.le_of_lt_succ a3);lia
 rw[show Ya=runV 9 3 (sSeq (Qm [] 3 (mLim (Qa (mC (.str "guess")) (Qa (mC (.str "unless")) (Qa (mC (.str "if")) (Qa (mC (.str "")) (Qa (mC (.str "abcdefghijklm")) (Qa (mC (.str "a1")) aNil))))))))
  (sSeq (Qm [3] 3 (bin2 pCat (mVar 3) (mLst (mLim (Qa (mC (.str "Ab")) (Qa (mC (.str "a\nb")) (Qa (mC (.str "by")) (Qa (mC (.str "by")) (Qa (mC (.str "zzzzzzzzzzzz")) aNil)))))))))
  (sSeq (Qm [0,1] 4 (mLim (Qa (Qc QG (Qa (mVar 0) (Qa (mVar 1) aNil))) aNil)))
  (sSeq (sSet [0,0,0] 5 (bin2 pAdd (bin2 pMod (bin2 pIx (mVar 0) (mN 1)) (mN 5)) (bin2 pMul (bin2 pDiv (bin2 pMod (bin2 pIx (mVar 0) (mN 35)) (mN 5)) (mN 4)) (bin2 pMod (bin2 pIx (mVar 0) (mN 36)) (mN 5)))))
  (sSeq (Qcv (iRg1 (mVar 5)) (gSet 6) Zf)
  (sSeq (sSet [4] 8 (mMt "str" Qbi (mC (.str " ")) (Qa (mVar 4) aNil)))
  (sSeq (sIf (bAnd (truB (bin2 pEq (bin2 pMod (bin2 pIx (mVar 0) (mN 38)) (mN 8)) (mN 0))) (truB (bin2 pGt (Qc pLen (Qa (mVar 2) aNil)) (mN 0)))) (sSet [2,0,2] 8 (Qc QP (Qa (bin2 pIx (mVar 2) (bin2 pMod (bin2 pIx (mVar 0) (mN 39)) (Qc pLen (Qa (mVar 2) aNil)))) aNil))) sNx)
  (sSeq (sIf (truB (bin2 pEq (bin2 pMod (bin2 pIx (mVar 0) (mN 38)) (mN 8)) (mN 1))) (sSet [8,0] 8 (Qc QO (Qa (mVar 8) (Qa (mVar 0) aNil)))) sNx) asT)))))))) from rfl]
 walk_at "ev";rw[ef];walk_at "ev";rw[g1];walk_at "ev";rw[O];walk_at "ev";rw[U];walk_at "ev";generalize M%5+l%5/4*(B%5)=size at *;obtain⟨aj,e,ws,s6,s7,rfl,k1,k2⟩:=Qdj (g:=gSet 6) (b:=Zf) (λj γ=>∃(ws:List Str)(s6 s7:mQ),γ=[.fz (.lst E),.fz (.lst (K.map .str)),.fz (.lst (R.map Rw.v)),.ow (oth.map .str),.ow (ws.map .str),.fz (pN size),s6,s7,.un]/\ws.length=j+1/\∀s∈ws,Tx 30 s)
  size [.fz (.lst E),.fz (.lst (K.map .str)),.fz (.lst (R.map Rw.v)),.ow (oth.map .str),.ow (([f]:List Str).map .str),.fz (pN size),.un,.un,.un] ⟨[f],.un,.un,rfl,rfl,λs D=>by rw[al.mp D];exact hf⟩ (by
   rintro j γ hj ⟨ws,s6,s7,rfl,k1,k2⟩;obtain⟨w,t7,e1,h1⟩:=asked1 (q := .lst (R.map Rw.v)) (j:=j) (s5 := .fz (pN size)) (s7:=s7) (s8 := .un) hE hK hl (by lia) (by lia) k2 (by lia);refine⟨_,_,rfl,e1,ws++[w],.fz (pN j),t7,rfl,by simp[k1],λs D=>?_⟩;rcases aP.mp D with z | z
   .exact k2 s z
   .rw[al.mp z];exact h1)
 rw[show([.str "guess",.str "unless",.str "if",.str "",.str "abcdefghijklm",.str "a1",.str "Ab",.str "a\nb",.str "by",.str "by",.str "zzzzzzzzzzzz"]:List PV)=oth.map .str from rfl,show([.str f]:List PV)=([f]:List Str).map .str from rfl,e];obtain⟨hj,az⟩:=join_tx k2 (by lia);walk_at "ev";rw[pJoin_s (by rw[show(" ":Str).length=1 from rfl];lia)];generalize a5 " " ws=L0 at *;walk_at "ev";rw[I];walk_at "ev";have tail:∀(s4:mQ)(L1:Str),Tx 400 L1->∃L,((sSeq (sIf (truB (bin2 pEq (bin2 pMod (bin2 pIx (mVar 0) (mN 38)) (mN 8)) (mN 1))) (sSet [8,0] 8 (Qc QO (Qa (mVar 8) (Qa (mVar 0) aNil)))) sNx) asT [.fz (.lst E),.fz (.lst (K.map .str)),.fz (.lst (R.map Rw.v)),.ow (oth.map .str),s4,.fz (pN size),s6,s7,.fz (.str L1)])).bind outV=some (.str L)/\Ask L:=λs4 L1 h1=>by
  walk_at "ev";rw[I];walk_at "ev";cases c:H%8==1 with
  |false =>
   walk_at "ev";obtain⟨s,e,h⟩:=asT_ok (p0 := .lst E) (p1 := .lst (K.map .str)) (p2 := .lst (R.map Rw.v)) (s3 := .ow (oth.map .str)) (s4:=s4) (s5 := .fz (pN size)) (s6:=s6) (s7:=s7) (h1.up (show 400<=801 by decide));rw[e];exact⟨s,rfl,h⟩
  |true =>
   walk_at "ev";obtain⟨L2,e2,h2⟩:=e_signed hE h1;rw[e2];walk_at "ev";obtain⟨s,e,h⟩:=asT_ok (p0 := .lst E) (p1 := .lst (K.map .str)) (p2 := .lst (R.map Rw.v)) (s3 := .ow (oth.map .str)) (s4:=s4) (s5 := .fz (pN size)) (s6:=s6) (s7:=s7) h2;rw[e];exact⟨s,rfl,h⟩
 generalize hT:(sSeq (sIf (truB (bin2 pEq (bin2 pMod (bin2 pIx (mVar 0) (mN 38)) (mN 8)) (mN 1))) (sSet [8,0] 8 (Qc QO (Qa (mVar 8) (Qa (mVar 0) aNil)))) sNx) asT)=T at *;cases c:H%8==0 with
 |false =>
  walk_at "ev";exact tail _ L0 hj
 |true =>
  walk_at "ev";by_cases c2:0<R.length
  .rw[a8 c2];walk_at "ev";rw[av];have hm:Y%R.length<R.length:=bA _ c2;walk_at "ev";rw[aT,aR hm];have J:=ok _ (bi hm);walk_at "ev";rw[e_line J];walk_at "ev";exact tail _ _ (line_tx J)
  .rw[aX c2];walk_at "ev";exact tail _ L0 hj
def Qkq(x:Str)(ps:List Str):List PV:=if QbH x ps=true then [.lst ((Qu x ps).map .str),.lst ((Qn x ps).map .str)] else []
def ok_book:ar ("book":Str)=true:=by decide+kernel
def Qjg{x:Str}{ps:List Str}(U:AllA (x::ps))(hl:ps.length<=900){L f B D I J:Bool}(Y:pEq (.str x) (.str "lot")=some (.bl L))(O:pEq (.str x) (.str "why")=some (.bl f))(q3:pEq (.str x) (.str "flaw")=some (.bl B))(q4:pEq (.str x) (.str "camps")=some (.bl D))(q5:pEq (.str x) (.str "ranks")=some (.bl I))(q6:pEq (.str x) (.str "book")=some (.bl J)) :
  Yh [.lst (.str x::ps.map .str)]=some (.lst (
   if ((L||f)&&(ps.length==1))=true then [.lst (ps.map .str),.lst []] else
   if (f&&(decide (2<ps.length)&&(ps.getD 1 ""=="by")))=true then [.lst ((ps.take 1).map .str),.lst ((ps.drop 2).map .str)] else
   if (B||D)=true then [.lst [],.lst (ps.map .str)] else
   if ((ps.length==0)&&(I||J))=true then [.lst [],.lst []] else [])):=by
 have e1:(ps.length+1==2)=(ps.length==1):=by
  cases h:ps.length==1 with
  |true=>rw[bg.mp h];rfl
  |false=>exact aW.mpr λz=>by have:=aW.mp h;lia
 have e2:(ps.length+1==1)=(ps.length==0):=by
  cases h:ps.length==0 with
  |true=>rw[bg.mp h];rfl
  |false=>exact aW.mpr λz=>by have:=aW.mp h;lia
 have e3:decide (3<ps.length+1)=decide (2<ps.length):=by
  by_cases h:2<ps.length
  .rw[a8 h,a8 (by lia)]
  .rw[aX h,aX (by lia)]
 have j:cutP (PV.str x::ps.map .str) (some ((1:Nat):Int)) none=ps.map .str:=by rw[Xz];rfl
 have E:cutP (PV.str x::ps.map .str) (some ((1:Nat):Int)) (some ((2:Nat):Int))=(ps.take 1).map .str:=by rw[QgM];cases ps<;>rfl
 have H:cutP (PV.str x::ps.map .str) (some ((3:Nat):Int)) none=(ps.drop 2).map .str:=by rw[Xz,iM];rfl
 have t4:∀b:Bool,(b=true\/b=false):=λb=>by cases b<;>simp
 -- what follows the first two questions
 have last:(sSeq (sIf (bOr (truB (bin2 pEq (bin2 pIx (mVar 0) (mN 0)) (mC (.str "flaw")))) (truB (bin2 pEq (bin2 pIx (mVar 0) (mN 0)) (mC (.str "camps"))))) (Zk (mLim (Qa (mLst (mLim aNil)) (Qa (mLst (sl3 pCut (mVar 0) (mSo (mN 1)) mNo)) aNil)))) sNx)
   (sSeq (sIf (bAnd (truB (bin2 pEq (Qc pLen (Qa (mVar 0) aNil)) (mN 1))) (bOr (truB (bin2 pEq (bin2 pIx (mVar 0) (mN 0)) (mC (.str "ranks")))) (truB (bin2 pEq (bin2 pIx (mVar 0) (mN 0)) (mC (.str "book")))))) (Zk (mLim (Qa (mLst (mLim aNil)) (Qa (mLst (mLim aNil)) aNil)))) sNx)
   (Zk (mLim aNil)))) [.fz (.lst (.str x::ps.map .str))]=some (.ro (if (B||D)=true then [.lst [],.lst (ps.map .str)] else if ((ps.length==0)&&(I||J))=true then [.lst [],.lst []] else [])):=by
  walk_at "ev";rw[q3];cases B with
  |true=>walk_at "ev";rw[j];try rfl
  |false =>
   walk_at "ev";rw[q4];cases D with
   |true=>walk_at "ev";rw[j];try rfl
   |false =>
    walk_at "ev";rw[e2];cases ps.length==0 with
    |false=>walk_at "ev";rfl
    |true =>
     walk_at "ev";rw[q5];cases I with
     |true=>walk_at "ev";rfl
     |false =>
      walk_at "ev";rw[q6];cases J with
      |true=>walk_at "ev";rfl
      |false=>walk_at "ev";rfl
 delta Yh;generalize hT:(sSeq (sIf (bOr (truB (bin2 pEq (bin2 pIx (mVar 0) (mN 0)) (mC (.str "flaw")))) (truB (bin2 pEq (bin2 pIx (mVar 0) (mN 0)) (mC (.str "camps"))))) (Zk (mLim (Qa (mLst (mLim aNil)) (Qa (mLst (sl3 pCut (mVar 0) (mSo (mN 1)) mNo)) aNil)))) sNx)
   (sSeq (sIf (bAnd (truB (bin2 pEq (Qc pLen (Qa (mVar 0) aNil)) (mN 1))) (bOr (truB (bin2 pEq (bin2 pIx (mVar 0) (mN 0)) (mC (.str "ranks")))) (truB (bin2 pEq (bin2 pIx (mVar 0) (mN 0)) (mC (.str "book")))))) (Zk (mLim (Qa (mLst (mLim aNil)) (Qa (mLst (mLim aNil)) aNil)))) sNx)
   (Zk (mLim aNil))))=T at *
 have mid:(sSeq (sIf (bAnd (truB (bin2 pEq (bin2 pIx (mVar 0) (mN 0)) (mC (.str "why")))) (bAnd (truB (bin2 pGt (Qc pLen (Qa (mVar 0) aNil)) (mN 3))) (truB (bin2 pEq (bin2 pIx (mVar 0) (mN 2)) (mC (.str "by")))))) (Zk (mLim (Qa (mLst (sl3 pCut (mVar 0) (mSo (mN 1)) (mSo (mN 2)))) (Qa (mLst (sl3 pCut (mVar 0) (mSo (mN 3)) mNo)) aNil)))) sNx) T) [.fz (.lst (.str x::ps.map .str))]=some (.ro (
   if (f&&(decide (2<ps.length)&&(ps.getD 1 ""=="by")))=true then [.lst ((ps.take 1).map .str),.lst ((ps.drop 2).map .str)] else
   if (B||D)=true then [.lst [],.lst (ps.map .str)] else if ((ps.length==0)&&(I||J))=true then [.lst [],.lst []] else [])):=by
  walk_at "ev";rw[O];cases f with
  |false=>walk_at "ev";rw[last];rfl
  |true =>
   walk_at "ev";rw[e3];by_cases h:2<ps.length
   .rw[a8 h];walk_at "ev";rcases ps with _|⟨a,_|⟨b,l⟩⟩
    .cases h
    .simp at h
    .walk_at "ev";rw[YH (U b (by simp)).1 ok_by];show _=some (Out.ro (if (true&&(true&&(b=="by")))=true then _ else _));cases b=="by" with
     |true=>walk_at "ev";rw[QgM,Xz];rfl
     |false =>
      walk_at "ev";rw[show T [mQ.fz (PV.lst (PV.str x::PV.str a::PV.str b::l.map PV.str))]=_ from last];rfl
   .rw[aX h];walk_at "ev";rw[last];rfl
 generalize hM:(sSeq (sIf (bAnd (truB (bin2 pEq (bin2 pIx (mVar 0) (mN 0)) (mC (.str "why")))) (bAnd (truB (bin2 pGt (Qc pLen (Qa (mVar 0) aNil)) (mN 3))) (truB (bin2 pEq (bin2 pIx (mVar 0) (mN 2)) (mC (.str "by")))))) (Zk (mLim (Qa (mLst (sl3 pCut (mVar 0) (mSo (mN 1)) (mSo (mN 2)))) (Qa (mLst (sl3 pCut (mVar 0) (mSo (mN 3)) mNo)) aNil)))) sNx) T)=M at *;have rep:(mQ.fz (.lst (.str x::ps.map .str))::bS (1-(0+1)) mQ.un)=[mQ.fz (.lst (.str x::ps.map .str))]:=rfl;walk_at "ev";rw[rep,Y];cases L with
 |true =>
  walk_at "ev";rw[e1];cases h1:ps.length==1 with
  |true=>walk_at "ev";rw[j];try rfl
  |false =>
   walk_at "ev";rw[O];cases f with
   |true=>walk_at "ev";rw[e1,h1];walk_at "ev";rw[mid];rfl
   |false=>walk_at "ev";rw[mid];rfl
 |false =>
  walk_at "ev";rw[O];cases f with
  |true =>
   walk_at "ev";rw[e1];cases h1:ps.length==1 with
   |true=>walk_at "ev";rw[j];try rfl
   |false=>walk_at "ev";rw[mid];rfl
  |false=>walk_at "ev";rw[mid];rfl
def any2{a b x:Str}:(([a,b]:List Str).any (·==x))=((x==a)||(x==b)):=by
 show((a==x)||((b==x)||false))=_;rw[j4,BEq.comm (a:=a),BEq.comm (a:=b)]
def e_parts{x:Str}{ps:List Str}(L:AllA (x::ps))(hl:ps.length<=900):Yh [.lst (.str x::ps.map .str)]=some (.lst (Qkq x ps)):=by
 have j:=(L x (by simp)).1;rw[Qjg L hl (YH j Qkg) (YH j QeU) (YH j QkT) (YH j Qiq) (YH j Qip) (YH j ok_book)];delta Qkq QbH Qu Qn;rw[any2,any2,any2];congr 2;have tk:∀{l:List Str},l.length=1->l.take 1=l:=λh=>c7 (by lia);have T:∀{l:List Str},l.length=1->l.drop 2=[]:=λh=>dL (by lia);by_cases M:x = "why"
 .subst M;have B:(("why":Str)=="lot")=false:=by decide+kernel
  have D:(("why":Str)=="flaw")=false:=by decide+kernel
  have H:(("why":Str)=="camps")=false:=by decide+kernel
  have f:(("why":Str)=="ranks")=false:=by decide+kernel
  have I:(("why":Str)=="book")=false:=by decide+kernel
  have J:(("why":Str)=="why")=true:=by simp
  rw[B,J,D,H,f,I];cases h1:ps.length==1 with
  |true =>
   have:=bg.mp h1;simp[tk this,T this]
  |false =>
   cases h2:(decide (2<ps.length)&&(ps.getD 1 ""=="by")) with
   |true=>simp[h2]
   |false=>simp[h2]
 .have J:(x=="why")=false:=aW.mpr M;rw[J];by_cases O:x = "lot"
  .subst O;have B:(("lot":Str)=="lot")=true:=by simp
   have D:(("lot":Str)=="flaw")=false:=by decide+kernel
   have H:(("lot":Str)=="camps")=false:=by decide+kernel
   have f:(("lot":Str)=="ranks")=false:=by decide+kernel
   have I:(("lot":Str)=="book")=false:=by decide+kernel
   rw[B,D,H,f,I];cases h1:ps.length==1 with
   |true =>
    have:=bg.mp h1;simp[tk this]
   |false=>simp
  .have B:(x=="lot")=false:=aW.mpr O;rw[B];by_cases E:x = "ranks"\/x = "book"
   .have f:(x=="ranks"||x=="book")=true:=by rcases E with rfl | rfl<;>simp
    have D:(x=="flaw"||x=="camps")=false:=by rcases E with rfl | rfl<;>decide+kernel
    rw[f,D];cases h1:ps.length==0 with
    |_=>simp
   .have f:(x=="ranks"||x=="book")=false:=by
     simp only[not_or]at E;rw[aW.mpr E.1,aW.mpr E.2];rfl
    rw[f];cases h1:(x=="flaw"||x=="camps") with
    |_=>simp
def QlH{x:Str}{ps:List Str}(h:QbH x ps=true):(ps.map wdB).all id=(Qu x ps++Qn x ps).all wdB:=by
 have I:(ps.map wdB).all id=ps.all wdB:=by rw[dM];rfl
 rw[I];have T:=h;delta QbH at h;delta Qu Qn;rw[any2,any2];by_cases D:x = "why"
 .subst D;have f:(("why":Str)=="lot")=false:=by decide+kernel
  have j:(("why":Str)=="why")=true:=by simp
  have B:wdB "by"=true:=by decide+kernel
  rw[j,au rfl]at h;rw[f,j];rcases (dR _ _).mp h with h | h
  .have:=bg.mp h;obtain⟨a,rfl⟩:=kr.mp this;simp
  .rw[aN]at h;have J:=bC h.1;match ps,J,h.2 with
   |a::b::l,_,L =>
    have:b = "by":=by simpa using L
    subst this;simp[B]
 .have j:(x=="why")=false:=aW.mpr D;rw[j,aK (by simp)]at h;rw[j];by_cases E:x = "lot"
  .subst E;have f:(("lot":Str)=="lot")=true:=by simp
   have M:(("lot":Str)=="flaw")=false:=by decide+kernel
   have O:(("lot":Str)=="camps")=false:=by decide+kernel
   rw[f,au rfl]at h;rw[f,M,O];have:=bg.mp h;obtain⟨a,rfl⟩:=kr.mp this;simp
  .have f:(x=="lot")=false:=aW.mpr E;rw[f,aK (by simp)]at h;rw[f];rw[any2]at h;by_cases H:(x=="ranks"||x=="book")=true
   .rw[au H]at h;have:=bg.mp h;obtain rfl:=dD.mp this;simp
   .rw[aK H,any2]at h;rw[h];simp
def dueN(N:List Str)(g:Nat)(x:Str)(ps:List Str):PV:=if fOk x ps=true then if nOk N x ps=true then if gOk N g x ps=true then .int (-1) else pN 2 else pN 1 else pN 0
def hdV:Rw->PV
 |.g a _=>.str a
 |.r _ _=>.non
def Qmz:∀R:List Rw,(R.filter Rw.isG).map hdV=(GN (gsR R)).map .str:=λR=>by
 rw[Qny,aH];delta GN;rw[aH];rfl
def Qjx{R:List Rw}(hl:R.length<=1000):YO (gSet 0) (truB (bin2 pEq (bin2 pIx (mVar 0) (mN 0)) (mC (.str "guess")))) (bin2 pIx (mVar 0) (mN 1)) [.un] (R.map Rw.v)=some ((GN (gsR R)).map .str):=by
 rw[<-Qmz];refine YW Rw.v Rw.isG hdV R λx f=>?_;cases x with
 |g a b =>
  refine⟨_,rfl,?_,λ_=>?_⟩
  .delta Rw.v;walk_at "ev";rw[Xt Zw Zw,show(("guess":Str)=="guess")=true by simp];rfl
  .delta Rw.v hdV;walk_at "ev"
 |r h b =>
  refine⟨_,rfl,?_,λz=>nomatch z⟩;delta Rw.v;walk_at "ev";rw[Xt Qbh Zw,Qho];rfl
def okv_2{a b:List Str}(f:∀s∈a,ar s=true)(l:∀s∈b,ar s=true):okv (.lst [.lst (a.map .str),.lst (b.map .str)])=true:=by
 have h1:=QaN f;have h2:=QaN l;simp[okv,dep,depL,okS,okSL,h1.1,h1.2,h2.1,h2.2]
def QgA:okv (.lst [])=true:=by simp[okv,dep,depL,okS,okSL]
def pEq_nn:pEq (.lst []) (.lst [])=some (.bl true):=by
 rw[QeT QgA QgA];simp[peq,peqL]
def pEq_2n{a b:List Str}(f:∀s∈a,ar s=true)(l:∀s∈b,ar s=true):pEq (.lst [.lst (a.map .str),.lst (b.map .str)]) (.lst [])=some (.bl false):=by
 rw[QeT (okv_2 f l) QgA];simp[peq,peqL]
def e_due{R:List Rw}{M:List Str}(G:Gd R M){L x:Str}{ps:List Str}(B:cC L sp=x::ps)(I:AllA (x::ps))(hl:ps.length<=900)(hL:L.length<=900) :
  Yj [.str L,.lst (R.map Rw.v)]=some (dueN (nmR R) (gsR R).length x ps):=by
 have J:YJ (.str L) [.str " "]=some (.str x::ps.map .str):=by rw[Qdv (by lia),B];rfl
 have O:=G.len;have T:=Qlt G.ok (by lia);have l1:=Qbw x ps;have l2:=Qbx x ps;have hm:∀w∈Qu x ps++Qn x ps,Asc w/\w.length<=9000:=λw hw=>I w (ax _ ((aP.mp hw).elim Qdx Qdy));have D:∀s∈knR R,ar s=true:=λs B=>Qct (Qkl G s (kn_nm.mp B));delta Yj dueN fOk;walk_at "ev";rw[J];walk_at "ev";rw[e_parts I hl];delta Qkq;cases hf:QbH x ps with
 |false =>
  rw[aK (by simp)];walk_at "ev";rw[pEq_nn];walk_at "ev";rfl
 |true =>
  rw[au rfl,QlH hf];walk_at "ev";rw[pEq_2n (λs B=>YK (hm s (cy _ B)).1) (λs B=>YK (hm s (aV _ B)).1)];walk_at "ev";rw[<-bF];generalize E:PV.lst [PV.lst ((Qu x ps).map .str),PV.lst ((Qn x ps).map .str)]=P at *;have k1:=QaL (g:=gSet 3) (b:=Yx) PV.str wdB (pN 0) (λl=>∃s3,l=[.fz (.str L),.fz (.lst (R.map Rw.v)),.fz P,s3,.un,.un]) (Qu x ps++Qn x ps) [.fz (.str L),.fz (.lst (R.map Rw.v)),.fz P,.un,.un,.un] ⟨_,rfl⟩ (λw hw l ⟨s3,e⟩=>by
   subst e;have j:=hm w hw;refine⟨_,rfl,λf=>⟨[.fz (.str L),.fz (.lst (R.map Rw.v)),.fz P,.fz (.str w),.un,.un],?_,_,rfl⟩,λf=>?_⟩
   .delta Yx;walk_at "ev";rw[QdH j.1 j.2,f];walk_at "ev"
   .delta Yx;walk_at "ev";rw[QdH j.1 j.2,f];walk_at "ev")
  cases h1:(Qu x ps++Qn x ps).all wdB with
  |false =>
   rw[k1.2 h1];walk_at "ev"
   try rfl
  |true =>
   obtain⟨γ1,e1,s3,rfl⟩:=k1.1 h1;rw[e1];walk_at "ev";rw[T];walk_at "ev";subst E;walk_at "ev";rw[<-bF];generalize E:PV.lst [PV.lst ((Qu x ps).map .str),PV.lst ((Qn x ps).map .str)]=P at *;have k2:=QaL (g:=gSet 3) (b:=Yw) PV.str (λw=>(knR R).any (·==w)) (pN 1) (λl=>∃s3,l=[.fz (.str L),.fz (.lst (R.map Rw.v)),.fz P,s3,.fz (.lst ((knR R).map .str)),.un]) (Qu x ps++Qn x ps) [.fz (.str L),.fz (.lst (R.map Rw.v)),.fz P,s3,.fz (.lst ((knR R).map .str)),.un] ⟨_,rfl⟩ (λw hw l ⟨s3,e⟩=>by
    subst e;have j:=hm w hw;refine⟨_,rfl,λf=>⟨[.fz (.str L),.fz (.lst (R.map Rw.v)),.fz P,.fz (.str w),.fz (.lst ((knR R).map .str)),.un],?_,_,rfl⟩,λf=>?_⟩
    .delta Yw;walk_at "ev";rw[XE (YK j.1) D,f];walk_at "ev"
    .delta Yw;walk_at "ev";rw[XE (YK j.1) D,f];walk_at "ev")
   have U:nOk (nmR R) x ps=(Qu x ps++Qn x ps).all λw=>(knR R).any (·==w):=by
    delta nOk;congr 1;funext w;cases hc:(nmR R).any (·==w) with
    |true=>exact(bY.mpr ⟨w,kn_nm.mpr (Qcs hc),by simp⟩).symm
    |false =>
     cases hd:(knR R).any (·==w) with
     |false=>rfl
     |true =>
      have:(nmR R).any (·==w)=true:=bY.mpr ⟨w,kn_nm.mp (Qcs hd),by simp⟩;rw[hc]at this;cases this
   rw[U];cases h2:(Qu x ps++Qn x ps).all λw=>(knR R).any (·==w) with
   |false =>
    rw[k2.2 h2];walk_at "ev"
    try rfl
   |true =>
    obtain⟨γ2,e2,s4,rfl⟩:=k2.1 h2;rw[e2];walk_at "ev";rw[Qjx (by lia)];walk_at "ev";subst E;walk_at "ev";generalize E:PV.lst [PV.lst ((Qu x ps).map .str),PV.lst ((Qn x ps).map .str)]=P at *;have k3:=QaL (g:=gSet 3) (b:=Yv) PV.str (λw=>(GN (gsR R)).any (·==w)) (pN 2) (λl=>∃s3,l=[.fz (.str L),.fz (.lst (R.map Rw.v)),.fz P,s3,.fz (.lst ((knR R).map .str)),.ow ((GN (gsR R)).map .str)]) (Qn x ps) [.fz (.str L),.fz (.lst (R.map Rw.v)),.fz P,s4,.fz (.lst ((knR R).map .str)),.ow ((GN (gsR R)).map .str)] ⟨_,rfl⟩ (λw hw l ⟨s3,e⟩=>by
     subst e;have j:=hm w (aV _ hw);refine⟨_,rfl,λf=>⟨[.fz (.str L),.fz (.lst (R.map Rw.v)),.fz P,.fz (.str w),.fz (.lst ((knR R).map .str)),.ow ((GN (gsR R)).map .str)],?_,_,rfl⟩,λf=>?_⟩
     .delta Yv;walk_at "ev";rw[XE (YK j.1) (GN_ok G.ok),f];walk_at "ev"
     .delta Yv;walk_at "ev";rw[XE (YK j.1) (GN_ok G.ok),f];walk_at "ev")
    have Y:gOk (nmR R) (gsR R).length x ps=(Qn x ps).all λw=>(GN (gsR R)).any (·==w):=by
     delta gOk;congr 1;funext w;by_cases hc:w∈GN (gsR R)
     .rw[a8 (Qkr.mpr hc)];exact(bY.mpr ⟨w,hc,by simp⟩).symm
     .rw[aX λz=>hc (Qkr.mp z)];cases hd:(GN (gsR R)).any (·==w) with
      |false=>rfl
      |true=>exact absurd (Qcs hd) hc
    rw[Y];cases H:(Qn x ps).all λw=>(GN (gsR R)).any (·==w) with
    |false =>
     rw[k3.2 H];walk_at "ev"
     try rfl
    |true =>
     obtain⟨av,e3,_,_⟩:=k3.1 H;rw[e3];walk_at "ev"
     try rfl
structure Thr (C:Nat->Addr):Prop where
 a:(C 20==C 19)=false
 b:(C 21==C 19)=false
 c:(C 21==C 20)=false
def qsK(ms:List Nat)(i:Nat)(f:PEnv):PV ⊕ Addr->Out ⊕ (PEnv×Addr)
 |.inl r=>.inl (.nx ((Qx (flat r) ms f).set i (.fz r)))
 |.inr p=>.inr (frz ms f,p)
def ev_qSetM(ms:List Nat)(i:Nat)(D:Addr)(l:Str)(g:List PV->Option (PV ⊕ Addr))(B:MEx)(I:PEnv->Option (List PV))(f:PEnv):Qnk ms i D l g B I f=(B f).bind λq=>if isC D l q=true then (I f).bind λps=>(g (q::ps)).map (qsK ms i f) else none:=by
 rfl
def tryK(i:Nat)(Cs:List Addr)(f:Addr->Addr->MSt):Out ⊕ (PEnv×Addr)->Option Out
 |.inl o=>some o
 |.inr (γ1,D)=>if Cs.contains D=true then (allB λa=>sufK i (f D a (γ1.set i (.fz (.opq a))))).map .nx else none
def ev_sTry(i:Nat)(Cs:List Addr)(f:MStQ)(l:Addr->Addr->MSt)(B:PEnv):sTry i Cs f l B=(f B).bind (tryK i Cs l):=by
 rfl
def Qiy(C:Nat->Addr)(R:List Rw):isC (C 5) "ask" (deskV C R)=true:=by
 show((C 5==C 5) && !(["lines","names","book"]:List Str).contains "ask")=true;rw[lX];decide+kernel
def ev_mIsE{i:Nat}{a:Addr}{b:Bool}{f:PEnv}(h:getV f i=some (.opq a)):mIsE i a b f=some (.bl b):=by
 delta mIsE;rw[h];exact au rfl
def bls(l:List Bool):PV := .lst (l.map .bl)
def QkS(l:List Bool):okv (bls l)=true:=by
 have:depL (l.map PV.bl)=0/\okSL (l.map PV.bl)=true:=by
  induction l with
  |nil=>simp[depL,okSL]
  |cons x l f=>simp[depL,okSL,dep,okS,f.1,f.2]
 simp[bls,okv,dep,okS,this.1,this.2]
def QdT(a b:List Bool)(h:a=b):pEq (bls a) (bls b)=some (.bl true):=by
 subst h;rw[QeT (QkS a) (QkS a),QbZ]
def exG(C:Nat->Addr)(R:List Rw)(L:Str)(f:PV)(k o:List Bool)(s6:mQ):PEnv:=[.fz (deskV C R),.fz (.str L),.fz f,.ow (k.map .bl),.ow (o.map .bl),.fz .non,s6]
def mIsE7(f s1 s2 s3 s4 s5:mQ)(a:Addr)(b:Bool):mIsE 6 a b [f,s1,s2,s3,s4,s5,.fz (.opq a)]=some (.bl b):=ev_mIsE rfl
local macro_rules|`(tactic| walk_at "ev")=>`(tactic| try simp (disch:=fail"e") only[mIsE7,ev_qSetM,ev_sTry,EVs])
def sm_ok(C:Nat->Addr){R:List Rw}{L:Str}{l:PV}{f a:Addr}{B D I:Bool}(h1:lkB [(C 19,true),(C 20,false),(C 21,false)] f=B)(h2:lkB [(C 19,false),(C 20,true),(C 21,false)] f=D)(J:lkB [(C 19,false),(C 20,false),(C 21,true)] f=I)(M:lkB [(C 19,false),(C 20,false),(C 21,false)] f=false)(O:lkB [(C 19,true),(C 20,true),(C 21,true)] f=true) :
  Qo C f a (exG C R L l [] [] (.fz (.opq a)))=some (.nx (exG C R L l [B,D,I] [false,false,false,false,false,false] (.fz (.opq a)))):=by
 delta Qo exG;rw[h1,h2,J,M,O];walk_at "ev"
def QjZ(C:Nat->Addr){R:List Rw}{L:Str}{f:PV}{l:Addr}{B D I:Bool}(h1:lkB [(C 19,true),(C 20,false),(C 21,false)] l=B)(h2:lkB [(C 19,false),(C 20,true),(C 21,false)] l=D)(J:lkB [(C 19,false),(C 20,false),(C 21,true)] l=I)(M:lkB [(C 19,false),(C 20,false),(C 21,false)] l=false)(O:lkB [(C 19,true),(C 20,true),(C 21,true)] l=true)(hc:[C 19,C 20,C 21].contains l=true) :
  tryK 6 [C 19,C 20,C 21] (Qo C) (.inr (exG C R L f [] [] .un,l))=some (.nx (exG C R L f [B,D,I] [false,false,false,false,false,false] .un)):=by
 show(if [C 19,C 20,C 21].contains l=true then (allB λa=>sufK 6 (Qo C l a ((exG C R L f [] [] .un).set 6 (.fz (.opq a))))).map Out.nx else none)=_;rw[au hc,QlC (k:=exG C R L f [B,D,I] [false,false,false,false,false,false] .un) λa=>?_]
 .rfl
 .show sufK 6 (Qo C l a (exG C R L f [] [] (.fz (.opq a))))=_;rw[sm_ok C h1 h2 J M O];rfl
def lk_1{C:Nat->Addr}(a b c:Bool):lkB [(C 19,a),(C 20,b),(C 21,c)] (C 19)=a:=by
 delta lkB;rw[a6,lX];rfl
def lk_2{C:Nat->Addr}(h:Thr C)(a b c:Bool):lkB [(C 19,a),(C 20,b),(C 21,c)] (C 20)=b:=by
 delta lkB;rw[a6,h.a,a6,lX];rfl
def lk_3{C:Nat->Addr}(h:Thr C)(a b c:Bool):lkB [(C 19,a),(C 20,b),(C 21,c)] (C 21)=c:=by
 delta lkB;rw[a6,h.b,a6,h.c,a6,lX];rfl
def rtT:MSt:=(sSeq (sIf (truB (bin2 pLt (mVar 2) (mN 0))) (sRet (vAnd (bin2 pEq (mVar 3) (mLst (mLim aNil))) (vAnd (mIsi Qnv (mVar 5)) (bin2 pEq (Qc pLen (Qa (mLst (Qr (iLst (mVar 5)) 1 [] (gSet 0) (bNot (mTru (mIsi Qnu (mVar 0)))) (mVar 0))) aNil)) (mN 0))))) sNx)
 (sRet (vAnd (bin2 pEq (mVar 3) (mLst (Qr (iRg1 (mN 3)) 1 [2] (gSet 0) QH (bin2 pEq (mVar 0) (mVar 1))))) (bin2 pEq (mVar 4) (mLst (bin2 pRep (mLst (mLim (Qa (mC (.bl false)) aNil))) (mN 6)))))))
def rep6:pRep (.lst [.bl false]) (pN 6)=some [.bl false,.bl false,.bl false,.bl false,.bl false,.bl false]:=by
 rfl
def rtT_an{p0 p1 p:PV}{s4 s6:mQ}(h:An p):rtT [.fz p0,.fz p1,.fz (.int (-1)),.ow [],s4,.fz p,s6]=some (.rt (.bl true)):=by
 obtain⟨rs,rfl,hl,_⟩:=h;delta rtT;walk_at "ev";rw[show pLt (.int (-1)) (pN 0)=some (.bl true) from rfl];walk_at "ev";rw[pEq_nn];walk_at "ev";rw[YW PV.str (λ_=>false) (λs=>PV.str s) rs λx f=>⟨_,rfl,by walk_at "ev",λz=>nomatch z⟩];rw[show rs.filter (λ_=>false)=[] by simp];walk_at "ev";rfl
def Qkc{C:Nat->Addr}{R:List Rw}{L:Str}{s6:mQ}{d:Nat}(hd:d<3):rtT (exG C R L (pN d) [d==0,d==1,d==2] [false,false,false,false,false,false] s6)=some (.rt (.bl true)):=by
 delta rtT exG;walk_at "ev";rw[Qdl (λk=>PV.bl (k==d)) (ao 3) λk f=>⟨_,rfl,by walk_at "ev"⟩];have e1:pEq (.lst [.bl (d==0),.bl (d==1),.bl (d==2)]) (.lst ((ao 3).map λk=>PV.bl (k==d)))=some (.bl true):=by
  match d,hd with
  |0,_=>exact QdT [true,false,false] [true,false,false] rfl
  |1,_=>exact QdT [false,true,false] [false,true,false] rfl
  |2,_=>exact QdT [false,false,true] [false,false,true] rfl
 walk_at "ev";rw[e1];walk_at "ev";rw[show pRep (.lst [.bl false]) (pN 6)=some [.bl false,.bl false,.bl false,.bl false,.bl false,.bl false] from rep6];walk_at "ev";rw[show pEq (.lst [.bl false,.bl false,.bl false,.bl false,.bl false,.bl false]) (.lst [.bl false,.bl false,.bl false,.bl false,.bl false,.bl false])=some (.bl true) from QdT [false,false,false,false,false,false] [false,false,false,false,false,false] rfl];rfl
def rt_body(C:Nat->Addr):XZ C=sSeq (Qm [] 3 (mLim aNil)) (sSeq (Qm [] 4 (mLim aNil)) (sSeq (sSet [] 5 (mC .non)) (sSeq (sTry 6 [C 19,C 20,C 21] (Qnk [0,1] 5 (C 5) "ask" (Qq C) (mVar 0) (Qa (mVar 1) aNil)) (Qo C)) rtT))):=rfl
def QfT{L:Str}(B:Ask L):∃x ps,cC L sp=x::ps/\AllA (x::ps)/\ps.length<=900/\L.length<=900:=by
 have j:L.length<=900:=by have:=B.tx.2;lia
 obtain⟨I,J,f⟩:=QlU B.tx.1 j;obtain⟨x,ps,D⟩:∃x ps,cC L sp=x::ps:=by
  cases h:cC L sp with
  |nil=>rw[h]at f;cases f
  |cons x ps=>exact⟨x,ps,rfl⟩
 have E:ps.length<=900:=by
  have H:(cC L sp).length<=L.length+1:=by
   rw[Qec,ai];have:=Qed (c:=32) (l:=L.cps.toList);rw[XQ]at this;exact this
  have h1:=B.tx.2;rw[D,aG]at H;lia
 rw[D]at I;exact⟨x,ps,D,I,E,j⟩
def e_right(C:Nat->Addr)(Y:Four C)(f:Thr C){R:List Rw}{M:List Str}(G:Gd R M){L:Str}(O:Ask L)(I:PV)(hd:Yj [.str L,.lst (R.map Rw.v)]=some I):Zc C [deskV C R,.str L,I]=some (.bl true):=by
 obtain⟨x,ps,T,U,E,H⟩:=QfT O;have j:=e_due G T U E H;rw[hd]at j;cases j;obtain⟨k1,k2,k3,k4⟩:=e_ask C Y G T U E H O.nt O.nd;have run:∀{o:PV ⊕ Addr}{γ2:PEnv},Qq C [deskV C R,.str L]=some o->tryK 6 [C 19,C 20,C 21] (Qo C) (qsK [0,1] 5 [.fz (deskV C R),.fz (.str L),.fz (dueN (nmR R) (gsR R).length x ps),.ow [],.ow [],.fz .non,.un] o)=some (.nx γ2)->rtT γ2=some (.rt (.bl true))->Zc C [deskV C R,.str L,dueN (nmR R) (gsR R).length x ps]=some (.bl true):=λ{o γ2} e1 e2 e3=>by
  generalize dueN (nmR R) (gsR R).length x ps=du at *;delta Zc;rw[rt_body];walk_at "ev";rw[Qiy];walk_at "ev";rw[e1];walk_at "ev";rw[e2];walk_at "ev";rw[e3];rfl
 cases l:fOk x ps with
 |false =>
  have B:dueN (nmR R) (gsR R).length x ps=pN 0:=by delta dueN;rw[l];rfl
  refine run (k1 l) (show tryK _ _ _ (.inr (exG C R L _ [] [] .un,C 19))=_ from QjZ C (lk_1 _ _ _) (lk_1 _ _ _) (lk_1 _ _ _) (lk_1 _ _ _) (lk_1 _ _ _) (by simp)) ?_;rw[B];exact Qkc (d:=0) (by decide)
 |true =>
  cases D:nOk (nmR R) x ps with
  |false =>
   have B:dueN (nmR R) (gsR R).length x ps=pN 1:=by delta dueN;rw[l,D];rfl
   refine run (k2 l D) (show tryK _ _ _ (.inr (exG C R L _ [] [] .un,C 20))=_ from QjZ C (lk_2 f _ _ _) (lk_2 f _ _ _) (lk_2 f _ _ _) (lk_2 f _ _ _) (lk_2 f _ _ _) (by simp)) ?_;rw[B];exact Qkc (d:=1) (by decide)
  |true =>
   cases J:gOk (nmR R) (gsR R).length x ps with
   |false =>
    have B:dueN (nmR R) (gsR R).length x ps=pN 2:=by delta dueN;rw[l,D,J];rfl
    refine run (k3 l D J) (show tryK _ _ _ (.inr (exG C R L _ [] [] .un,C 21))=_ from QjZ C (lk_3 f _ _ _) (lk_3 f _ _ _) (lk_3 f _ _ _) (lk_3 f _ _ _) (lk_3 f _ _ _) (by simp)) ?_;rw[B];exact Qkc (d:=2) (by decide)
   |true =>
    have B:dueN (nmR R) (gsR R).length x ps = .int (-1):=by delta dueN;rw[l,D,J];rfl
    obtain⟨p,e,hp⟩:=k4 l D J;obtain⟨rs,rfl,hr,hok⟩:=hp;refine run (γ2:=[.fz (deskV C R),.fz (.str L),.fz (dueN (nmR R) (gsR R).length x ps),.ow [],.ow [],.fz (.lst (rs.map .str)),.un]) e ?_ ?_
    .show some (Out.nx (List.set (Qx _ _ _) _ _))=_;generalize flat _=bb;cases bb<;>rfl
    .rw[B];exact rtT_an ⟨rs,rfl,hr,hok⟩
def QdN(C:Nat->Addr)(l:Four C){R:List Rw}{M:List Str}(G:Gd R M){x:Str}(f:x = "book"\/x = "ranks"):∃rs:List Str,Qq C [deskV C R,.str x]=some (.inl (.lst (rs.map .str)))/\rs.length<=500/\∀r∈rs,ar r=true:=by
 have B:cC x sp=[x]:=by rcases f with rfl | rfl<;>decide+kernel
 have D:AllA [x]:=λs j=>by
  rw[al.mp j];have:Tx 10 x:=by rcases f with rfl | rfl<;>exact Qhd (by decide+kernel)
  exact⟨this.1,by have:=this.2;omega⟩
 have hf:fOk x []=true:=by rcases f with rfl | rfl<;>decide+kernel
 have hw:Qu x []=[]/\Qn x []=[]:=by rcases f with rfl | rfl<;>decide+kernel
 have E:nOk (nmR R) x []=true:=by unfold nOk;rw[hw.1,hw.2];rfl
 have H:gOk (nmR R) (gsR R).length x []=true:=by unfold gOk;rw[hw.2];rfl
 have hl:x.length<=900:=by rcases f with rfl | rfl<;>decide+kernel
 obtain⟨p,e,rs,rfl,h1,h2⟩:=(e_ask C l G B D (by simp) hl (by rcases f with rfl | rfl<;>decide+kernel) (by rcases f with rfl | rfl<;>decide+kernel)).2.2.2 hf E H;exact⟨rs,e,h1,h2⟩
def mthK_desk(C:Nat->Addr)(R:List Rw)(g:List PV->Option PV)(ps:List PV):mthK (C 5) "ask" g (some ps) (deskV C R)=g (deskV C R::ps):=by
 unfold mthK;rw[au (Qiy C R)];rfl
local macro_rules|`(tactic| walk_at "ev")=>`(tactic| try simp (disch:=fail"e") only[ev_mMeth,mthK_desk,EVs])
def turn62(C:Nat->Addr)(B:Four C)(D:Thr C){R:List Rw}{M:List Str}(G:Gd R M)(U:R.length<=6){q:PV}{s4 s5 s7:mQ}(c:Int):∃I,Qan C [.fz q,.fz (.lst (R.map Rw.v)),.fz (deskV C R),.fz (.lst ((knR R).map .str)),s4,s5,.fz (.int c),s7]=some (.nx [.fz q,.fz (.lst (R.map Rw.v)),.fz (deskV C R),.fz (.lst ((knR R).map .str)),s4,s5,.fz (.int c),I]):=by
 obtain⟨E,H,hE⟩:=e_dr c (n:=40) (by decide);obtain⟨L,J,j⟩:=e_asked hE G.ok (by omega);unfold Qan;walk_at "ev";rw[H];walk_at "ev";rw[J];walk_at "ev";obtain⟨x,ps,O,T,l,f⟩:=QfT j;have hd:=e_due G O T l f;rw[hd];walk_at "ev";rw[e_right C B D G j _ hd];walk_at "ev";exact⟨_,rfl⟩
def QkK{g:List PV->Option (PV ⊕ Addr)}{ps:List PV}{r:PV}(h:g ps=some (.inl r)):QfW g ps=some r:=by
 unfold QfW;rw[h];rfl
def e_desk(C:Nat->Addr){R:List Rw}{M:List Str}(G:Gd R M){f:PEnv->Option (List PV)}{l:PEnv}(h:f l=some [.str (a5 nl (R.map Rw.line))]):mNew (C 5) Ze f l=some (deskV C R):=QeV h λa=>e_dinit G a
def kp1(k:Bool)(a b r:PV):List.set (Qx k [1] [.fz a,.fz b,.un,.un,.un,.un,.un,.un]) 2 (.fz r)=[.fz a,.fz b,.fz r,.un,.un,.un,.un,.un]:=by cases k<;>rfl
def law62(C:Nat->Addr)(B:Four C)(L:Thr C)(ns:List Int)(O:ns.length<=63):QaT C [.lst (ns.map .int)]=some (.bl true):=by
 obtain⟨R,M,T,G,U⟩:=e_lrows ns;have Y:=Qlt G.ok (by omega);obtain⟨f,e1,l1,E⟩:=QdN C B G (.inl rfl);obtain⟨j,e2,l2,H⟩:=QdN C B G (.inr rfl);have p1:=QkK e1;have p2:=QkK e2;have tl:=QhZ G.ok (by omega);unfold QaT;walk_at "ev";rw[T];walk_at "ev";rw[e_desk C G (by
  walk_at "ev";rw[Ql Rw.v (λx=>PV.str x.line) R λx D=>⟨_,rfl,by walk_at "ev";rw[e_line (G.ok x D)]⟩];walk_at "ev";rw[show(R.map λx=>PV.str x.line)=(R.map Rw.line).map PV.str by rw[aH];rfl,pJoin_s (by
   have:=Xw (R.map Rw.line) 110 λs hs=>by
    obtain⟨x,D,rfl⟩:=aU.mp hs;exact(QaK (G.ok x D)).2
   rw[ai]at this;rw[ai,show("\n":Str).length=1 from rfl];omega)]
  rfl)]
 rw[eX,a9];rw[kp1];walk_at "ev";rw[Y];walk_at "ev";rw[p1];walk_at "ev";rw[p2];walk_at "ev";obtain⟨av,e,s6,s7,rfl⟩:=ZL (g:=gSet 6) (b:=Qan C) PV.int (λ_ I=>∃s6 s7,I=[.fz (.lst (ns.map .int)),.fz (.lst (R.map Rw.v)),.fz (deskV C R),.fz (.lst ((knR R).map .str)),.fz (.lst [.lst (f.map .str),.lst (j.map .str)]),.ow [.lst (f.map .str),.lst (j.map .str)],s6,s7]) (cutP ns (some ((3:Nat):Int)) (some ((43:Nat):Int))) (cutP ns (some ((3:Nat):Int)) (some ((43:Nat):Int))) [] [.fz (.lst (ns.map .int)),.fz (.lst (R.map Rw.v)),.fz (deskV C R),.fz (.lst ((knR R).map .str)),.fz (.lst [.lst (f.map .str),.lst (j.map .str)]),.ow [.lst (f.map .str),.lst (j.map .str)],.un,.un] rfl ⟨.un,.un,rfl⟩ (by
  rintro pre c post I J ⟨s6,s7,rfl⟩;obtain⟨t7,e⟩:=turn62 C B L G U (q := .lst (ns.map .int)) (s4 := .fz (.lst [.lst (f.map .str),.lst (j.map .str)])) (s5 := .ow [.lst (f.map .str),.lst (j.map .str)]) (s7:=s7) c;exact⟨_,_,rfl,e,.fz (.int c),t7,rfl⟩)
 rw[e];have l:pEq (.lst [.lst (f.map .str),.lst (j.map .str)]) (.lst [.lst (f.map .str),.lst (j.map .str)])=some (.bl true):=by rw[QeT (okv_2 E H) (okv_2 E H),QbZ]
 walk_at "ev";rw[l];walk_at "ev";rw[p1];walk_at "ev";rw[p2];walk_at "ev";rw[l];rfl
end DH
namespace K62
open PySem PySem.Spec PyProof.Rows L2 L2.PM DH
def law_true(C:Nat->Addr)(h:([C 1,C 2,C 3,C 4,C 19,C 20,C 21]:List Addr).Nodup)(ns:List Int)(hns:ns.length<=63):QaT C [.lst (ns.map .int)]=some (.bl true):=by
 have ne:∀{a b:Addr},a≠b->(b==a)=false:=λh=>aW.mpr λe=>h e.symm;simp only[bO,ap,not_or]at h;refine law62 C ?_ ⟨ne h.2.2.2.2.1.1,ne h.2.2.2.2.1.2.1,ne h.2.2.2.2.2.1.1⟩ ns hns;unfold Four;simp[h]
end K62
namespace K62
open PySem PySem.Spec PySem.W PyProof.Rows L2 L2.PM DH HD
variable{P:aY}{w:cf}{K:Frag}{mg:Str->Option Value}{base:Heap}
class Q (k:outParam Nat) (x:Str) (n:outParam Nat) (g:outParam (List PV->Option PV)):Prop where
 q:∀{P w K mg base},Bd P w K mg base->Cal P w K mg base k x n g
def Hb(x q:Str)(st:Stmt):Prop:=∀(kV doc j:Value)(a:Option Addr)(f ct:Value)(us:List Value),us.length=(an st).length->fM (fnOf x q (Qt st) (Qj st) (Qe st) .none kV doc j a f ct) ⟨us,[]⟩=pure ((an st).zip us)
local macro_rules|`(tactic| walk_at "b")=>`(tactic| (intro _ _ _ _ _ _ us hl;first|exact lb1 (P:=λus=>bindArgs _ ⟨us,[]⟩=pure (List.zip _ us)) (by intros;exact rfl) us hl|exact lb2 (P:=λus=>bindArgs _ ⟨us,[]⟩=pure (List.zip _ us)) (by intros;exact rfl) us hl|exact lb3 (P:=λus=>bindArgs _ ⟨us,[]⟩=pure (List.zip _ us)) (by intros;exact rfl) us hl|exact lb4 (P:=λus=>bindArgs _ ⟨us,[]⟩=pure (List.zip _ us)) (by intros;exact rfl) us hl|exact lb5 (P:=λus=>bindArgs _ ⟨us,[]⟩=pure (List.zip _ us)) (by intros;exact rfl) us hl))
section
variable{CX:CXT}{sp:Sp}{k:Nat}{x:Str}
def qc(B:Bd P w K mg base)(i:Nat)(ok:∀{f fd},Txt K mg->Fun K x x (top i) f fd->FnOk P w K mg base CX k f fd (an (top i)) sp)(l:idx.contains i=true:=by rfl)(D:nm (top i)=x:=by rfl)(I:Hb x x (top i):=by walk_at "b") :
  ∃f fd ps,FnOk P w K mg base CX k f fd ps sp/\mg x=some (.ref f)/\keepIn K (.ref f)=true/\Zp K fd ps []:=by
 subst D;obtain⟨f,fd,a,F⟩:=(fx B).d i l;exact⟨f,fd,_,ok (fx B) F,a,F.kp,F.binds I⟩
def qm(B:Bd P w K mg base)(i:Nat){C:Nat}{m q:Str}{st:Stmt}(l:mts[i]?=some (C,m,q,st))(ok:∀{f fd},Txt K mg->Fun K m q st f fd->FnOk P w K mg base CX k f fd (an st) sp)(hc:cls.contains (cc C)=true:=by rfl)(D:Hb m q st:=by walk_at "b") :
  ∃f fd ps,FnOk P w K mg base CX k f fd ps sp/\Cls K (cc C)/\Meth K (cc C) m f/\Zp K fd ps []:=by
 obtain⟨f,fd,M,F⟩:=(fx B).m i _ l;exact⟨f,fd,_,ok (fx B) F,((fx B).c _ hc).1,M,F.binds D⟩
def qk(B:Bd P w K mg base){C:Nat}{g:Addr->List PV->OT->Option OT}{n:Nat}(h:CalX P w K mg base k (cc C) "-" "__init__" n g)(l:nam.lookup x=some C:=by rfl)(hc:cls.contains (cc C)=true:=by rfl):Qga P w K mg base k (cc C) "-" x n g:=by
 obtain⟨f,fd,ps,h1,_,M,b⟩:=h;have c:=(fx B).c _ hc;have z:=(fx B).n x (by rw[l];rfl);rw[l]at z;exact⟨f,fd,ps,h1,⟨c.2.1,M.at_,M.fn,c.2.2.1⟩,z,b⟩
end
def qd(i:Nat){k n:Nat}{x:Str}{g:List PV->Option PV}(H:∀{P:aY} {w:cf} {K:Frag} {mg:Str->Option Value} {base:Heap} {f fd},Bd P w K mg base->Txt K mg->Fun K x x (top i) f fd->FnOk P w K mg base CX0 k f fd (an (top i)) (spM K n g))(l:idx.contains i=true:=by rfl)(D:nm (top i)=x:=by rfl)(I:Hb x x (top i):=by walk_at "b"):Q k x n g :=
 ⟨λB=>qc B i (λT F=>H B T F) l D I⟩
def Txt.fl(T:Txt K mg){D:Addr}{f:Str}(h:(cls.contains D&&fds.contains f)=true):CFld K D f:=have z:=(aN ..).mp h;have c:=T.c D z.1;⟨c.1,c.2.2.2 f z.2⟩
def Txt.fs(T:Txt K mg){l:List Addr}{f:Str}(h:(l.all λD=>cls.contains D&&fds.contains f)=true):∀D,D∈l->CFld K D f:=λD j=>T.fl (bf.mp h D j)
local macro_rules|`(tactic| unfold $_ $y $z*)=>`(tactic| unfold $y $z*)
local macro_rules|`(tactic| unfold $x:ident $_*)=>`(tactic| refine' @$x ..)
local macro_rules|`(tactic| if()then $a:tacticSeq else $b:tacticSeq)=>`(tactic| ($b))
local macro_rules|`(tactic| if()then $a:tacticSeq else $b:tacticSeq)=>`(tactic| ($a))
local macro_rules|`(tactic| walk_at "k")=>`(tactic| repeat' first|((with_reducible refine(?_:(_:Prop)));if()then ((with_reducible show _=_);first|rfl|assumption|decide|exact Txt.b ‹_› _ (by kernel_rfl)|kernel_rfl|with_unfolding_all rfl) else if()then ((with_reducible show EM _ _ (.Name _ _) _);first|with_reducible refine' @em_var _ _ _ _ _|with_reducible refine' @em_gT _ _ _ _ _ _ _|refine' @em_gI _ _ _ _ _ _ _) else if()then ((with_reducible show EM _ _ (.Constant _ _ _) _);first|exact em_int|exact em_str|exact em_bl|exact em_non) else if()then ((with_reducible show EM _ _ (.Call _ _ _ _) _);first|(with_reducible (if()then refine' em_callB cm_len _ _ _ _ _ _ _ _ else if()then refine' em_callB (cm_all _) _ _ _ _ _ _ _ _ else if()then refine' em_callB (cm_any _) _ _ _ _ _ _ _ _ else if()then refine' em_callB (cm_min _) _ _ _ _ _ _ _ _ else if()then refine' em_callTy cm_tuple _ _ _ _ _ _ _ _ else if()then refine' em_callTy cm_str _ _ _ _ _ _ _ _ else unfold em_indexT em_join em_joinT em_bits em_lenSetT em_lenSetLS em_tupRev em_starts EO.em kCalD kCal em_new em_methZ em_isinst))|refine' em_isE (by assumption) ((Txt.x ‹_› _ (by assumption)).2.2 _ _ (by kernel_rfl)) (pv _) rfl (Txt.b ‹_› _ (by kernel_rfl)) rfl (Txt.n ‹_› _ rfl)|refine' em_isEB (by assumption) ((Txt.x ‹_› _ (by assumption)).2.2 (.type "ValueError") _ (by kernel_rfl)) (pv _) rfl (Txt.b ‹_› _ (by kernel_rfl)) rfl (Txt.b ‹_› _ (by kernel_rfl)) (by kernel_rfl)|refine' em_methS _ _ _) else if()then ((with_reducible show EM _ _ _ _);with_reducible unfold em_ix em_op em_cmp em_tup em_cutS EO.em em_if em_and em_or em_one em_not em_neg em_inv em_chain em_js2 em_fv em_fldS em_fl) else if()then ((with_reducible show AM _ _ _ _);first|with_reducible exact am_nil|((with_reducible show AM _ _ (.Constant _ _ _::_) _);first|refine' @kStr _ _ _ _ _ _ _ _|refine' @kInt _ _ _ _ _ _ _ _)|with_reducible refine' @am_cons _ _ _ _ _ _ _ _ _ _) else if()then ((with_reducible show XMs _ _ _ _ _);first|(with_reducible unfold xs_cons xs_one)|refine' xs_cons _ _) else if()then ((with_reducible show XM _ _ _ _ _);first|refine' xm_fs _ _ (ecast _ _)|refine' xm_bs (by assumption) runX_len (Room.mono (by assumption) (by decide)) rfl (acast _ _)|refine' xm_mt _ (by assumption) runX_len (Room.mono (by assumption) (by decide)) (acast _ _)|refine' xm_lift (objG_mono _ _ _) _) else if()then ((with_reducible show RMs _ _ _ _);first|(with_reducible unfold rs_cons rs_lift rs_none rs_one)|refine' rs_cons _ _) else if()then ((with_reducible show RM _ _ _ _);first|(with_reducible unfold rm_if rm_lift)|((with_reducible show RM _ _ (.If _ _ _ _) _);refine' rm_if _ _ _)|refine' rm_for ownA rfl (icast _ _) _ _|refine' rm_raise raisesA rfl (Room.hd ‹_›) rfl (Txt.n ‹_› _ (by kernel_rfl)) (Txt.x ‹_› _ (by kernel_rfl)).1 _|refine' rm_exE (pe_calZ passA (by assumption) runR_len (Room.mono (by assumption) (by decide)) rfl (acast _ _))) else if()then ((with_reducible show PE _ _ _);refine' @pv _ _ _ _ _ _ _ _) else if()then ((with_reducible show OpM _ _ _);with_reducible unfold om_add om_sub om_mul om_mod om_div om_gt om_lt om_le om_ge om_is om_isNot om_shl om_shr om_and om_or om_ior om_leS om_catT om_notInS om_eq om_ne om_in om_notIn) else if()then ((with_reducible show EO _ _ _ _);with_reducible (if()then unfold kComp eo_lst eo_cut eo_op eo_split eo_sortDiff else if()then refine' eo_callB co_sorted _ _ _ _ _ _ _ _ else if()then refine' eo_callB co_sortedA _ _ _ _ _ _ _ _ else if()then refine' eo_callB co_sortedTT _ _ _ _ _ _ _ _ else refine' eo_callTy co_list _ _ _ _ _ _ _ _)) else if()then ((with_reducible show TM _ _ _ _);with_reducible unfold tm_not tm_cmp tm_chain tm_truth WM.tm) else if()then ((with_reducible show WM _ _ _ _);with_reducible unfold wm_and1 wm_or1 wm_and wm_or) else if()then ((with_reducible show IM _ _ _ _ _);with_reducible unfold im_enumL im_enumT im_range1 im_revL im_lst im_seq im_str im_tup) else if()then ((with_reducible show IMR _ _ _ _ _);with_reducible unfold imr_range1 imr_range3) else if()then ((with_reducible show SMs _ _ _);first|(with_reducible unfold ss_nil ss_one ss_cons)|refine' @ss_cons _ _ _ _ _ _ _) else if()then ((with_reducible show SM _ _ _);first|(with_reducible unfold sm_no kSetC kSetO kSet sm_retV sm_retO sm_ret sm_if kFor sm_forR kApp sm_aug kExE sm_while kExM kIns)|((with_reducible show SM _ (.Return _ _) _);first|refine' @sm_ret _ _ _ _ _ _|refine' @sm_retO _ _ _ _ _ _|refine' @sm_retV _ _ _ _ _ _)|((with_reducible show SM _ (.If _ _ _ _) _);refine' @sm_if _ _ _ _ _ _ _ _ _ _ _ _)|((with_reducible show SM _ (.AugAssign _ _ _ _) _);refine' @sm_aug _ _ _ _ _ _ _ _ _ _ _ _ _ _ _ _)|((with_reducible show SM _ (.For _ _ _ _ _) _);first|refine' @kFor _ _ _ _ _ _ _ _ _ _ _ _ _ _ _ _ _ _|refine' @sm_forR _ _ _ _ _ _ _ _ _ _ _ _ _ _ _ _)|((with_reducible show SM _ (.Assign _ _ _) _);first|refine' @kSet _ _ _ _ _ _ _ _ _ _ _ _ _ _ _ _|refine' @kSetO _ _ _ _ _ _ _ _ _ _ _ _ _ _ _ _|refine' @kSetC _ _ _ _ _ _ _ _ _ _ _ _ _ _ _ _ _ _ _ _ _ _ _ _ _ _ _ _ _ _ _ _ _ _ _)|((with_reducible show SM _ (.Expr _ _) _);first|refine' @kApp _ _ _ _ _ _ _ _ _ _ _ _ _ _ _ _ _ _ _ _|refine' @kExE _ _ _ _ _ _ _ _ _)) else if()then (with_reducible first|unfold gm_name gm_tup2 pg_name pg_tup pgs_cons|exact oo_cat|exact oo_rep|exact im_ix|exact pgs_nil|exact if_nil|unfold om_none om_some if_one) else if()then ((with_reducible show _->∀_ _ _ _ _ _,GU _ _ _ _);intro _ _ _ _ _ _ _;refine' kGU _ _) else if()then ((with_reducible show ∀_ _ _ _ _ _,IU _ _ _ _);intro _ _ _ _ _ _;refine' kIU _ _) else if()then ((with_reducible show ∀_ _ _ _ _ _,EU _ _ _ _);intro _ _ _ _ _ _;refine' kEU _ _) else (refine(?_:(_:Prop));first|exact Or.inl rfl|assumption|decide|exact Or.inr rfl|exact Or.inr (Or.inl rfl)|exact Or.inr (Or.inr rfl)|exact PassesOwn.never|exact Room.mono ‹_› (by decide)|exact Room.units ‹_›|exact runV_len|(intro _;rfl)|(intro _ _;rfl)|exact CalD.cal ‹_›|exact runX_len|exact runR_len|exact Txt.fs ‹_› (by kernel_rfl)|exact Q.q ‹_›|exact Txt.fl ‹_› (by kernel_rfl)|exact Txt.i ‹_› _ _ (by kernel_rfl)|exact Txt.z ‹_›|exact isi_lst|exact isi_str|exact noOw_gSet _|exact noOw_gSet2 _ _|rfl))|fail)
local macro_rules|`(tactic| walk_at "m")=>`(tactic| ((first|refine' fnK ‹_› _ _ _ _ _|refine' fnKD ‹_› _ _ _ _ _|refine' fnKR ‹_› _ _ _ _ _|refine' fnKX ‹_› _ _ _ _ _|refine' fnKV ‹_› _ _ _ _ _);rotate_left;rfl;rfl;exact⟨rfl,rfl,rfl,by decide+kernel,rfl,by decide+kernel,by decide+kernel⟩;(first|exact(rfl:_=[_])|exact(rfl:_=_::_::_));intro _ _ _ _ _ _ _ _;walk_at "k"))
instance:Q 1 "_law_draws" 2 Za:=qd 92 λB T F=>by walk_at "m"
instance:Q 1 "_law_fresh" 2 QI:=qd 94 λB T F=>by walk_at "m"
instance:Q 2 "_law_names" 2 ZZ:=qd 95 λB T F=>by walk_at "m"
instance:Q 1 "_law_cell_at" 2 Zn:=qd 93 λB T F=>by walk_at "m"
instance:Q 3 "_law_rows" 1 Yu:=qd 97 λB T F=>by walk_at "m"
instance:Q 1 "is_word" 1 QW:=qd 59 λB T F=>by walk_at "m"
instance:Q 2 "is_guess_row" 1 QC:=qd 60 λB T F=>by walk_at "m"
instance:Q 2 "is_rule_row" 1 QN:=qd 61 λB T F=>by walk_at "m"
def QjI(B:Bd P w K mg base):CalD P w K mg base 3 "read_row" 2 0 QR:=by have T:=fx B;obtain⟨_,a,F⟩:=T.d_read_row;exact⟨_,_,an (top 62),by walk_at "m",a,F.kp,F.binds λ_ _ _ _ _ _ _ _=>lb2 λ_ _=>⟨_,rfl,rfl⟩,F.bindsD λ_ _ _ _ _ _ _ d us hl=>match us,hl with | [_],_=>⟨_,rfl,rfl⟩⟩
instance:Q 3 "read_row" 2 QR:=⟨λB=>(QjI B).cal⟩
instance:Q 1 "of_kind" 2 QL:=qd 65 λB T F=>by walk_at "m"
instance:Q 1 "words_in" 1 YX:=qd 66 λB T F=>by walk_at "m"
instance:Q 2 "over_bounds" 1 Zy:=qd 67 λB T F=>by walk_at "m"
instance:Q 1 "told_once" 1 ZP:=qd 64 λB T F=>by walk_at "m"
instance:Q 4 "read_rows" 1 Xh:=qd 68 λB T F=>by walk_at "m"
instance:Q 2 "refuse_headed" 1 ZE:=qd 69 λB T F=>by have sc:FnScope ["rows","guesses","number","told"] (an (top 69)) (Qe (top 69)):=⟨rfl,rfl,rfl,by decide+kernel,rfl,by decide+kernel,by decide+kernel⟩;have nd:=sc.nd;refine fnM (k:=1) F sc rfl λcdv A outer s H E hr=>?_;walk_at "k"
instance:Q 2 "names_of" 1 Qad:=qd 70 λB T F=>by walk_at "m"
instance:Q 1 "numbered_rule" 2 ZF:=qd 71 λB T F=>by walk_at "m"
instance:Q 2 "numbered_book" 2 ZG:=qd 72 λB T F=>by walk_at "m"
instance:Q 5 "read_lines" 1 Zv:=qd 73 λB T F=>by walk_at "m"
def QhR(B:Bd P w K mg base):CalX P w K mg base 6 (cc 5) "-" "keep" 2 Xl:=qm B 8 rfl λT F=>by walk_at "m"
instance:Q 1 "lines_of" 1 ZN:=qd 63 λB T F=>by walk_at "m"
def QcZ(B:Bd P w K mg base):Qga P w K mg base 7 (cc 5) "-" "Desk" 2 Ze:=by have:=QhR B;have T:=fx B;have c:=T.c (cc 5) rfl;obtain⟨_,F,a,i⟩:=T.v;exact⟨_,_,an (Zj (top 90) 0),by walk_at "m",⟨c.2.1,a,i,c.2.2.1⟩,T.n _ (by kernel_rfl),F.binds λ_ _ _ _ _ _ _ _=>lb2 λ_ _=>⟨_,rfl,rfl⟩⟩
instance:Q 1 "_law_known" 1 Yi:=qd 98 λB T F=>by walk_at "m"
instance:Q 1 "has_form" 1 Qae:=qd 78 λB T F=>by walk_at "m"
def QeM(B:Bd P w K mg base):CalZ P w K mg base 2 "refuse_form" 1 (Yt cc):=qc B 81 λT F=>by walk_at "m"
instance:Q 1 "named_guesses" 1 QE:=qd 80 λB T F=>by walk_at "m"
instance:Q 1 "named_words" 1 Zz:=qd 79 λB T F=>by walk_at "m"
def Qdr(B:Bd P w K mg base):CalZ P w K mg base 2 "refuse_names" 3 (ZX cc):=qc B 82 λT F=>by walk_at "m"
instance:Q 1 "mask_of" 1 Zi:=qd 3 λB T F=>by walk_at "m"
instance:Q 1 "places" 1 XN:=qd 2 λB T F=>by walk_at "m"
instance:Q 2 "shown_set" 2 QJ:=qd 5 λB T F=>by walk_at "m"
def QcY(B:Bd P w K mg base):QjV P w K mg base 3 (cc 1) "shown" 2 (Zd cc):=qm B 0 rfl λT F=>by walk_at "m"
instance:Q 3 "shown_pair" 3 Ye:=qd 45 λB T F=>by walk_at "m"
def Qgp(B:Bd P w K mg base):QjV P w K mg base 4 (cc 2) "shown" 2 (Yk cc):=qm B 2 rfl λT F=>by walk_at "m"
def QeN(B:Bd P w K mg base):QjV P w K mg base 4 (cc 3) "shown" 2 (ZC cc):=qm B 4 rfl λT F=>by walk_at "m"
def QhQ(B:Bd P w K mg base):QjV P w K mg base 1 (cc 4) "shown" 2 (YB cc):=qm B 6 rfl λT F=>by walk_at "m"
instance:Q 1 "inside" 2 QY:=qd 4 λB T F=>by walk_at "m"
instance:Q 2 "bringing_steps" 2 QS:=qd 7 λB T F=>by have sc:FnScope ["book","held","rules","bodies","known","steps","grown","number","rule","head"] (an (top 7)) (Qe (top 7)):=⟨rfl,rfl,rfl,by decide+kernel,rfl,by decide+kernel,by decide+kernel⟩;have nd:=sc.nd;refine fnM (k:=1) F sc rfl λcdv A outer s H E hr=>?_;walk_at "k"
instance:Q 2 "needed_steps" 3 ZY:=qd 10 λB T F=>by walk_at "m"
instance:Q 2 "known_after" 3 ZA:=qd 8 λB T F=>by walk_at "m"
instance:Q 3 "way" 3 Qhq:=qd 11 λB T F=>by walk_at "m"
instance:Q 1 "shown_rule" 2 Qz:=qd 74 λB T F=>by walk_at "m"
instance:Q 4 "why_rows" 4 Qac:=qd 83 λB T F=>by walk_at "m"
instance:Q 3 "yielded" 2 XC:=qd 9 λB T F=>by walk_at "m"
instance:Q 4 "struck" 2 XL:=qd 17 λB T F=>by walk_at "m"
instance:Q 4 "does_yield" 3 Yg:=qd 14 λB T F=>by walk_at "m"
instance:Q 5 "a_reason" 3 QD:=qd 15 λB T F=>by walk_at "m"
instance:Q 6 "first_strike" 3 Zm:=qd 22 λB T F=>by walk_at "m"
instance:Q 1 "all_guesses" 1 ZB:=qd 13 λB T F=>by walk_at "m"
instance:Q 5 "unstruck" 2 YA:=qd 18 λB T F=>by walk_at "m"
instance:Q 6 "defended" 2 Zg:=qd 20 λB T F=>by walk_at "m"
instance:Q 7 "flaw" 2 QeP:=qd 23 λB T F=>by walk_at "m"
instance:Q 8 "flaw_rows" 3 ZQ:=qd 84 λB T F=>by walk_at "m"
instance:Q 1 "rank_row" 2 ZM:=qd 85 λB T F=>by walk_at "m"
instance:Q 7 "rounds" 1 QbX:=qd 41 λB T F=>by walk_at "m"
instance:Q 2 "rank_in" 2 QaS:=qd 42 λB T F=>by walk_at "m"
instance:Q 8 "settled" 1 XD:=qd 43 λB T F=>by walk_at "m"
instance:Q 9 "rank_rows" 2 Xi:=qd 86 λB T F=>by walk_at "m"
instance:Q 5 "at_peace" 2 Qaf:=qd 19 λB T F=>by walk_at "m"
instance:Q 7 "stands" 2 QbW:=qd 21 λB T F=>by walk_at "m"
def Qlv(B:Bd P w K mg base):CalD P w K mg base 8 "camps" 2 0 Qbl:=by have T:=fx B;obtain⟨_,a,F⟩:=T.d_camps;exact⟨_,_,an (top 25),by walk_at "m",a,F.kp,F.binds λ_ _ _ _ _ _ _ _=>lb2 λ_ _=>⟨_,rfl,rfl⟩,F.bindsD λ_ _ _ _ _ _ _ d us hl=>match us,hl with | [_],_=>⟨_,rfl,rfl⟩⟩
instance:Q 8 "camps" 2 Qbl:=⟨λB=>(Qlv B).cal⟩
instance:Q 9 "camp_rows" 3 Xj:=qd 87 λB T F=>by walk_at "m"
instance:Q 1 "shown_guess" 3 Ys:=qd 75 λB T F=>by walk_at "m"
instance:Q 2 "shown_book" 2 Yf:=qd 76 λB T F=>by walk_at "m"
def Yb(B:Bd P w K mg base){D:Addr}(l:cls.contains D=true):CalB P w K mg base 1 D "-" "Lot" "__init__" 3 QU:=by have T:=fx B;obtain⟨a,b,c,_,F⟩:=T.o;exact⟨_,_,an (Zj (top 46) 0),cc 0,by have h:=λf=>T.fl (D:=D) (f:=f);rw[l]at h;have:=h "word" rfl;have:=h "name" rfl;walk_at "m",T.n _ (by kernel_rfl),a,b,c,F.kp,F.binds (by walk_at "b")⟩
def Qci(B:Bd P w K mg base):Qga P w K mg base 3 (cc 3) "-" "Maybe" 5 Zr:=qk B (qm B 5 rfl λT F=>by have:=Yb B (D:=cc 3) rfl;walk_at "m")
def Qbq(B:Bd P w K mg base):Qga P w K mg base 3 (cc 1) "-" "Settled" 3 QV:=qk B (qm B 1 rfl λT F=>by have:=Yb B (D:=cc 1) rfl;walk_at "m")
def QcX(B:Bd P w K mg base):Qga P w K mg base 3 (cc 2) "-" "Sure" 3 ZH:=qk B (qm B 3 rfl λT F=>by have:=Yb B (D:=cc 2) rfl;walk_at "m")
def Qch(B:Bd P w K mg base):Qga P w K mg base 3 (cc 4) "-" "Never" 2 Zq:=qk B (qm B 7 rfl λT F=>by have:=Yb B (D:=cc 4) rfl;walk_at "m")
instance:Q 9 "lot" 2 (Qnj cc):=qd 51 λB T F=>by have:=Qlv B;have:=Qbq B;have:=QcX B;have:=Qci B;have:=Qch B;walk_at "m"
instance:Q 10 "answer" 3 (QbY cc):=qd 88 λB T F=>by walk_at "m";any_goals exact QdW ⟨⟨_,QcY B,Room.mono ‹_› (by decide)⟩,runV_len⟩ (QdW ⟨⟨_,Qgp B,Room.mono ‹_› (by decide)⟩,runV_len⟩ (QdW ⟨⟨_,QeN B,Room.mono ‹_› (by decide)⟩,runV_len⟩ (QdW ⟨⟨_,QhQ B,Room.mono ‹_› (by decide)⟩,runV_len⟩ (lk_nil))))
def QdM(B:Bd P w K mg base):Qkw P w K mg base 11 (cc 5) "ask" 2 (Qq cc):=qm B 9 rfl λT F=>by have:=QeM B;have:=Qdr B;walk_at "m"
instance:Q 1 "_law_first_word" 2 QG:=qd 100 λB T F=>by walk_at "m"
instance:Q 1 "_law_line" 1 QP:=qd 96 λB T F=>by walk_at "m"
instance:Q 1 "_law_signed" 2 QO:=qd 101 λB T F=>by walk_at "m"
instance:Q 2 "_law_near_word" 2 QT:=qd 99 λB T F=>by walk_at "m"
instance:Q 3 "_law_asked" 3 Ya:=qd 102 λB T F=>by walk_at "m"
instance:Q 12 "_law_right" 3 (Zc cc):=qd 106 λB T F=>by walk_at "m";any_goals exact sm_try (i:=6) (Cs:=[cc 19,cc 20,cc 21]) rfl rfl (λxe=>qs_one (qm_setM (i:=5) ‹_› rfl (Or.inl rfl) (em_var 0 (pv 0)) (QdM B) runR_len (Room.mono ‹_› (by decide)) (am_cons (em_var 1 (pv 1)) am_nil))) (λCe a oe hc hC=>by walk_at "k") (λD hD=>(T.x D hD).2.1) (by rfl) (T.n _ (by kernel_rfl)) T.h ‹_› rfl rfl
instance:Q 1 "_law_parts" 1 Yh:=qd 104 λB T F=>by walk_at "m"
instance:Q 1 "_law_word" 1 Xk:=qd 103 λB T F=>by walk_at "m"
instance:Q 2 "_law_due" 2 Yj:=qd 105 λB T F=>by walk_at "m"
def ok_law{f:Addr}{fd:d9}(B:Bd P w K mg base)(T:Txt K mg)(F:Fun K "law" "law" (top 107) f fd):FnOk P w K mg base CX0 13 f fd (an (top 107)) (spM K 1 (QaT cc)):=by have:=QcZ B;have:=QdM B;walk_at "m"
end K62
open PySem PySem.W PyProof.Rows
set_option maxRecDepth 100000 in
set_option maxHeartbeats 8000000 in
theorem PySem.Challenge.cw_doubthall_k62_asks_refused_holds : PySem.Challenge.rw_doubthall_k62_asks_refused.Holds := by
 refine HD.opens (K:=K62.kk) (as:=K62.ka) (st:=K62.top 107) (N:=6856) K62.h_said (by kernel_rfl) (λs=>by kernel_rfl) (by kernel_rfl) K62.h_one (by kernel_rfl) (by kernel_rfl) (by kernel_rfl) (by kernel_rfl) (by kernel_rfl) ⟨rfl,rfl,rfl,rfl,rfl,by decide+kernel⟩ ?hw ?hc
 (case hw=>w_witness2)
 refine HD.walkW (n:=63) (k:=13) (x := "script") (K:=λw=>K62.kk w _) (sp:=λK=>L2.PM.spM K 1 L2.PM.trueOn) rfl (by decide) rfl ⟨rfl,by decide,by decide⟩ (λw mg fa h X G e=>?_) λK H a ns hl hS=>L2.PM.law_sp L2.PM.trueOn_ok hl hS;have T:=K62.fx (P:=PySem.Challenge.rw_doubthall_k62_asks_refused.prog) (w:=w) (base:=h) ⟨⟨_,_,rfl⟩,h,X,G⟩;obtain⟨f,fd,a,F⟩:=T.d 107 rfl;cases e.symm.trans a;have F2:=F;obtain⟨_,_,kV,dc,pm,an,cd,ct,_,rfl,_,_⟩:=F2.ex;exact⟨_,λs v=>.of_eq rfl,λbase _ _=>(K62.ok_law ⟨⟨_,_,rfl⟩,h,X,G⟩ T F).sw λqs r h=>L2.PM.trueOn_get (K62.law_true K62.cc (by decide+kernel)) h⟩
